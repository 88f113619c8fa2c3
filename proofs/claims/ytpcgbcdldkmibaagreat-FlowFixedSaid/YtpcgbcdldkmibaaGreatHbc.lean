/- The contracts of AddDigits, SubDigits, CmpDigits. The contracts of both, low and Plus of the document. The contract of the document's Plus. The contract of the document's Plus, of two signs. -/
import Derived.Test.YtpcgbcdldkmibaaGreatHac
import Derived.Lib.MinMax
import Derived.Test.YtpcgbcdldkmibaaGreatHbb
namespace Go.Proofs.YtpcgbcdldkmibaaGreat
open Go.RowKit

theorem DN.form {w : World} {v : Value} {N : Nat} (h : DN w v N) : ∃ p c, v = .slice p (nd N) c := by
  rcases h with ⟨h0, p, c, rfl⟩ | ⟨h0, g, c, rfl, _⟩
  · exact ⟨p, c, by rw [h0]; rfl⟩
  · exact ⟨_, _, rfl⟩

set_option maxRecDepth 10000 in
set_option maxHeartbeats 800000 in
theorem addDigits_form (p q : Option Addr) (c d m n L A B : Nat) (w : World) (hA : Hid (DN w (.slice p m c) A)) (hB : Hid (DN w (.slice q n d) B)) (hL : max (m : Int) (n : Int) = (L : Int)) (hm : m ≤ 10000000) (hn : n ≤ 10000000) (hA2 : Hid (A < 2 ^ (32 * m))) (hB2 : Hid (B < 2 ^ (32 * n))) :
    Calls Tryz.prog 124 #[.slice p m c, .slice q n d] w fun e w' => ∃ v, e = .returned v ∧ DN w' v (A + B) ∧ From w.heap.size v ∧ Below w.heap.size w w' := by
  have hL1 : m ≤ L := by omega
  have hL2 : n ≤ L := by omega
  have hL3 : L ≤ 10000000 := by omega
  have hmk := fun w => run_make_row' (P := Tryz.prog) 90 32 (.int .u64 0) 8 Tryz.underlying90 info_u64 rfl .i64 .i64 (L + 1) (by omega) (by omega) w
  have ec : ((L + 1 : Nat) : Int) = (L : Int) + 1 := by omega
  rw [ec] at hmk
  clear ec
  have HO := hide (half_made w (L + 1) (A + B))
  go_enter Tryz.func124, Tryz.ntmps124
  go_wp2_with fail
  go_loopw [7, 8] (fun s i wr => ∃ k c : Nat, k ≤ L + 1 ∧ c ≤ 1 ∧ i = .int .i64 k ∧ s = .int .u64 c ∧ Hid (c = cry A B k) ∧ Hid (Half wr w.heap.size (L + 1) (A + B) k) ∧ Hid (Below w.heap.size w wr)) (fun _ i _ => L + 1 - (intOf i).toNat)
  case atStart => exact ⟨0, 0, Nat.zero_le _, Nat.zero_le _, rfl, rfl, (cry_zero A B).symm, HO, (Below.refl _ _).alloc (Nat.le_refl _) _⟩
  case round =>
    clear HO hmk
    obtain ⟨k, x, hk, hx, rfl, rfl, HC, HH, HB⟩ := hrel
    by_cases hlt : k < L + 1
    · have H1 := hide (digit_any _ A k wr (hA.out.below HB.out))
      have H2 := hide (digit_any _ B k wr (hB.out.below HB.out))
      have b1 := dgt_lt A k
      have b2 := dgt_lt B k
      have h1 := HH.out.cell (i := k) (by omega)
      have f1 := HH.out.frozen k
      have HS := hide fun a b (ha : a = dgt A k) (hb : b = dgt B k) => add_round (s := a + b + x) ha hb HC.out rfl
      generalize hD : dgt A k = a at H1 b1
      generalize hE : dgt B k = b at H2 b2
      have HS := hide (HS.out a b hD.symm hE.symm)
      clear hD hE
      go_wp2_with fail
      refine H1.out.mono ?_
      rintro e w' ⟨rfl, rfl⟩
      go_wp2_with fail
      refine H2.out.mono ?_
      rintro e w' ⟨rfl, rfl⟩
      go_wp2_with fail
      go_roundw
      case rel => exact ⟨k + 1, (a + b + x) / 4294967296, by omega, by omega, by go_num, by go_num, HS.out.2, half_step HH.out (by rw [← HS.out.1]; omega), HB.out.setCell (Nat.le_refl _) _⟩
      case measure => simp [intOf]; omega
    · obtain rfl : k = L + 1 := by omega
      have HO2 := hide (half_end HH.out)
      have hM : Hid (A + B < 2 ^ (32 * (L + 1))) := sum_lt hA2.out hB2.out (by omega) (by omega)
      have hlt2 := HO2.out.lt
      have HD := hide (dn_mk HO2.out.row hM.out (Nat.le_refl _) hlt2)
      go_wp2_with fail
      refine (trim_row _ _ _ _ _ HO2.out.row hM.out (Nat.le_refl _) (by omega)).mono ?_
      rintro e w' ⟨rfl, rfl⟩
      go_wp2_with fail
      go_ret
      exact ⟨_, rfl, HD.out, from_at _ _ _ _ (Nat.le_refl _), HB.out⟩

theorem addDigits_any (u v : Value) (A B : Nat) (w : World) (hA : DN w u A) (hB : DN w v B) (ha : nd A ≤ 10000000) (hb : nd B ≤ 10000000) :
    Calls Tryz.prog 124 #[u, v] w fun e w' => ∃ v, e = .returned v ∧ DN w' v (A + B) ∧ From w.heap.size v ∧ Below w.heap.size w w' := by
  obtain ⟨p, c, rfl⟩ := hA.form
  obtain ⟨q, d, rfl⟩ := hB.form
  exact addDigits_form p q c d (nd A) (nd B) (max (nd A) (nd B)) A B w hA hB (by omega) ha hb (nd_lt A) (nd_lt B)

set_option maxRecDepth 10000 in
set_option maxHeartbeats 400000 in
theorem subDigits_nil (p : Option Addr) (c : Nat) (v : Value) (w : World) :
    Calls Tryz.prog 126 #[.slice p 0 c, v] w fun e w' => ∃ v, e = .returned v ∧ DN w' v 0 ∧ From w.heap.size v ∧ Below w.heap.size w w' := by
  have hmk := fun w => run_make_row' (P := Tryz.prog) 90 32 (.int .u64 0) 8 Tryz.underlying90 info_u64 rfl .i64 .i64 0 (by omega) (by omega) w
  rw [show ((0 : Nat) : Int) = 0 from rfl] at hmk
  go_enter Tryz.func126, Tryz.ntmps126
  go_wp2_with fail
  go_loopw [6, 7] (fun s i wr => i = .int .i64 0 ∧ s = .int .u64 0 ∧ Hid (Below w.heap.size w wr)) (fun _ _ _ => 0)
  case atStart => exact ⟨rfl, rfl, (Below.refl _ _).alloc (Nat.le_refl _) _⟩
  case round =>
    obtain ⟨rfl, rfl, HB⟩ := hrel
    go_wp2_with fail
    refine (trim_row w.heap.size 0 0 0 _ (fun i hi => absurd hi (by omega)) (by decide) (Nat.le_refl _) (by omega)).mono ?_
    rintro e w' ⟨rfl, rfl⟩
    go_wp2_with fail
    go_ret
    exact ⟨_, rfl, Or.inl ⟨rfl, _, _, rfl⟩, from_at _ _ _ _ (Nat.le_refl _), HB.out⟩

set_option maxRecDepth 10000 in
set_option maxHeartbeats 800000 in
theorem subDigits_row (g : Nat) (v : Value) (c m B D : Nat) (w : World) (hrow : Hid (RowIs w g m (B + D))) (hg : g < w.heap.size) (hB : Hid (DN w v B)) (hm : m ≤ 10000000) (hA2 : Hid (B + D < 2 ^ (32 * m))) :
    Calls Tryz.prog 126 #[.slice (some ⟨g, 0, none⟩) m c, v] w fun e w' => ∃ v, e = .returned v ∧ DN w' v D ∧ From w.heap.size v ∧ Below w.heap.size w w' := by
  have hmk := fun w => run_make_row' (P := Tryz.prog) 90 32 (.int .u64 0) 8 Tryz.underlying90 info_u64 rfl .i64 .i64 m (by omega) (by omega) w
  have HO := hide (half_made w m D)
  go_enter Tryz.func126, Tryz.ntmps126
  go_wp2_with fail
  go_loopw [6, 7] (fun s i wr => ∃ k c : Nat, k ≤ m ∧ c ≤ 1 ∧ i = .int .i64 k ∧ s = .int .u64 c ∧ Hid (c = cry B D k) ∧ Hid (Half wr w.heap.size m D k) ∧ Hid (Below w.heap.size w wr)) (fun _ i _ => m - (intOf i).toNat)
  case atStart => exact ⟨0, 0, Nat.zero_le _, Nat.zero_le _, rfl, rfl, (cry_zero B D).symm, HO, (Below.refl _ _).alloc (Nat.le_refl _) _⟩
  case round =>
    clear HO hmk
    obtain ⟨k, x, hk, hx, rfl, rfl, HC, HH, HB⟩ := hrel
    by_cases hlt : k < m
    · have hc : wr.cell? ⟨g, k, none⟩ = some (.int .u64 (dgt (B + D) k : Int)) := (HB.out.cell (p := ⟨g, k, none⟩) hg).trans (hrow.out k hlt)
      have H2 := hide fun q => digit_any _ B k (wr.drewN q) (hB.out.below (below_drewN HB.out q))
      have b1 := dgt_lt (B + D) k
      have b2 := dgt_lt B k
      have h1 := HH.out.cell (i := k) (by omega)
      have f1 := HH.out.frozen k
      have HS := hide (sub_round (k := k) rfl rfl HC.out)
      generalize dgt (B + D) k = a at hc b1 HS
      generalize dgt B k = b at H2 b2 HS
      have hle := HS.out.1
      have hle2 := HS.out.2.2.1
      have w1 : IntKind.u64.wrap ((a : Int) + 4294967296) = (a : Int) + 4294967296 := by rw [IntKind.wrap_u64]; omega
      have w2 : IntKind.u64.wrap ((a : Int) + 4294967296 - (b : Int)) = (a : Int) + 4294967296 - (b : Int) := by rw [IntKind.wrap_u64]; omega
      have w3 : IntKind.u64.wrap ((a : Int) + 4294967296 - (b : Int) - (x : Int)) = ((a + 4294967296 - b - x : Nat) : Int) := by rw [IntKind.wrap_u64]; omega
      have hs : a + 4294967296 - b - x < 8589934592 := by omega
      generalize a + 4294967296 - b - x = s at w3 HS hle2 hs
      go_wp2_with fail
      go_quiet ((go_at_call 167; exact Calls.quiet_of_same (H2.out _)))
      go_wp2_with fail
      go_roundw
      case rel => exact ⟨k + 1, 1 - s / 4294967296, by omega, by omega, by go_num, by go_num, HS.out.2.2.2, half_step (w := wr.drewN nq) HH.out (by rw [← HS.out.2.1]; omega), (below_drewN HB.out _).setCell (Nat.le_refl _) _⟩
      case measure => simp [intOf]; omega
    · obtain rfl : k = m := by omega
      have HO2 := hide (half_end HH.out)
      have hM : Hid (D < 2 ^ (32 * k)) := by show _ < _; have := hA2.out; omega
      have hlt2 := HO2.out.lt
      have HD := hide (dn_mk HO2.out.row hM.out (Nat.le_refl _) hlt2)
      go_wp2_with fail
      refine (trim_row _ _ _ _ _ HO2.out.row hM.out (Nat.le_refl _) (by omega)).mono ?_
      rintro e w' ⟨rfl, rfl⟩
      go_wp2_with fail
      go_ret
      exact ⟨_, rfl, HD.out, from_at _ _ _ _ (Nat.le_refl _), HB.out⟩

theorem subDigits_any (u v : Value) (A B : Nat) (w : World) (hA : DN w u A) (hB : DN w v B) (ha : nd A ≤ 10000000) (hle : B ≤ A) :
    Calls Tryz.prog 126 #[u, v] w fun e w' => ∃ v, e = .returned v ∧ DN w' v (A - B) ∧ From w.heap.size v ∧ Below w.heap.size w w' := by
  obtain ⟨D, rfl⟩ : ∃ D, A = B + D := ⟨A - B, by omega⟩
  rw [Nat.add_sub_cancel_left]
  rcases hA with ⟨h0, p, c, rfl⟩ | ⟨h0, g, c, rfl, hc, hg, hr⟩
  · rw [show D = 0 by omega]; exact subDigits_nil p c v w
  · exact subDigits_row g v c (nd (B + D)) B D w hr hg hB ha (nd_lt _)

theorem cmpDigits_len (p q : Option Addr) (m n c d A B : Nat) (w : World) (hA : Hid (nd A = m)) (hB : Hid (nd B = n)) (hne : m ≠ n) :
    Calls Tryz.prog 125 #[.slice p m c, .slice q n d] w fun e w' => e = .returned (.int .i64 (cmpN A B)) ∧ ∃ q, w' = w.drewN q := by
  rcases Nat.lt_or_gt_of_ne hne with h | h
  · have e : cmpN A B = -1 := cmpN_lt (nd_lt_lt (by rw [hA.out, hB.out]; exact h))
    rw [e]
    go_enter Tryz.func125, Tryz.ntmps125
    go_wp2
    go_ret
    exact ⟨rfl, 0, rfl⟩
  · have e : cmpN A B = 1 := cmpN_gt (nd_lt_lt (by rw [hA.out, hB.out]; exact h))
    rw [e]
    go_enter Tryz.func125, Tryz.ntmps125
    go_wp2
    go_ret
    exact ⟨rfl, 0, rfl⟩

theorem top_zero {A n : Nat} (h : A < 2 ^ (32 * n)) : A / 2 ^ (32 * n) = 0 := Nat.div_eq_of_lt h

set_option maxHeartbeats 800000 in
theorem cmpDigits_row (g f n c d A B : Nat) (w : World) (hrA : Hid (RowIs w g n A)) (hrB : Hid (RowIs w f n B)) (hA : Hid (A < 2 ^ (32 * n))) (hB : Hid (B < 2 ^ (32 * n))) (hn : n ≤ 10000000) :
    Calls Tryz.prog 125 #[.slice (some ⟨g, 0, none⟩) n c, .slice (some ⟨f, 0, none⟩) n d] w fun e w' => e = .returned (.int .i64 (cmpN A B)) ∧ ∃ q, w' = w.drewN q := by
  go_enter Tryz.func125, Tryz.ntmps125
  go_wp2_with fail
  go_loopw [5] (fun i wr => ∃ k : Nat, k ≤ n ∧ i = .int .i64 ((k : Int) - 1) ∧ Hid (A / 2 ^ (32 * k) = B / 2 ^ (32 * k)) ∧ Hid (∃ q, wr = w.drewN q)) (fun i _ => (intOf i + 1).toNat)
  case atStart => exact ⟨n, Nat.le_refl _, rfl, by show _ = _; rw [top_zero hA.out, top_zero hB.out], 0, rfl⟩
  case round =>
    obtain ⟨k, hk, rfl, HE, HQ⟩ := hrel
    cases k with
    | zero =>
      have e : cmpN A B = 0 := cmpN_eq (by have := HE.out; rw [Nat.mul_zero, Nat.pow_zero, Nat.div_one, Nat.div_one] at this; exact this)
      have E := hide e.symm
      clear e
      go_wp2_with fail
      go_ret
      exact ⟨ret_int E.out, HQ.out⟩
    | succ j =>
      have e1 : ((j + 1 : Nat) : Int) - 1 = (j : Int) := by omega
      rw [e1]
      have hc1 : wr.cell? ⟨g, j, none⟩ = some (.int .u64 (dgt A j : Int)) := by obtain ⟨q, rfl⟩ := HQ.out; exact hrA.out j (by omega)
      have hc2 : wr.cell? ⟨f, j, none⟩ = some (.int .u64 (dgt B j : Int)) := by obtain ⟨q, rfl⟩ := HQ.out; exact hrB.out j (by omega)
      clear e1
      have H1 := hide fun h => cmpN_lt (lt_of_top HE.out h)
      have H2 := hide fun h => cmpN_gt (lt_of_top HE.out.symm h)
      have H3 := hide fun h => eq_of_top HE.out h
      generalize dgt A j = a at hc1 H1 H2 H3
      generalize dgt B j = b at hc2 H1 H2 H3
      clear HE
      rcases Nat.lt_trichotomy a b with h | h | h
      · have e := H1.out h
        have E := hide e.symm
        clear e H1 H2 H3
        go_wp2_with fail
        go_quiet (fail)
        go_wp2_with fail
        go_ret
        refine ⟨ret_int E.out, ?_⟩
        obtain ⟨q, rfl⟩ := HQ.out; exact ⟨_, World.drewN_drewN _ _ _⟩
      · have H4 := hide (H3.out h)
        clear H1 H2 H3
        subst h
        go_wp2_with fail
        go_quiet (fail)
        go_wp2_with fail
        go_quiet (fail)
        go_wp2_with fail
        go_roundw
        case rel =>
          refine ⟨j, by omega, by go_num, H4, ?_⟩
          obtain ⟨q, rfl⟩ := HQ.out
          exact ⟨_, by first | exact World.drewN_drewN _ _ _ | rw [World.drewN_drewN, World.drewN_drewN]⟩
        case measure => simp [intOf]
      · have e := H2.out h
        have E := hide e.symm
        clear e H1 H2 H3
        go_wp2_with fail
        go_quiet (fail)
        go_wp2_with fail
        go_quiet (fail)
        go_wp2_with fail
        go_ret
        refine ⟨ret_int E.out, ?_⟩
        obtain ⟨q, rfl⟩ := HQ.out; exact ⟨_, by first | exact World.drewN_drewN _ _ _ | rw [World.drewN_drewN, World.drewN_drewN]⟩

set_option maxHeartbeats 800000 in
theorem cmpDigits_nil (p q : Option Addr) (c d : Nat) (w : World) :
    Calls Tryz.prog 125 #[.slice p 0 c, .slice q 0 d] w fun e w' => e = .returned (.int .i64 0) ∧ ∃ q, w' = w.drewN q := by
  go_enter Tryz.func125, Tryz.ntmps125
  go_wp2_with fail
  go_loop [5] (fun i => i = .int .i64 (-1)) (fun _ => 0)
  case atStart => rfl
  case round =>
    subst hrel
    go_wp2_with fail
    go_ret
    exact ⟨rfl, 0, rfl⟩

theorem cmpDigits_any (u v : Value) (A B : Nat) (w : World) (hA : DN w u A) (hB : DN w v B) (ha : nd A ≤ 10000000) :
    Calls Tryz.prog 125 #[u, v] w fun e w' => e = .returned (.int .i64 (cmpN A B)) ∧ ∃ q, w' = w.drewN q := by
  by_cases hne : nd A = nd B
  · rcases hA with ⟨h0, p, c, rfl⟩ | ⟨h0, g, c, rfl, hc, hg, hr⟩
    · rcases hB with ⟨h1, q, d, rfl⟩ | ⟨h1, f, d, rfl, hd, hf, hs⟩
      · rw [cmpN_eq (h0.trans h1.symm)]; exact cmpDigits_nil p q c d w
      · exfalso; have h2 := nd_pos h1; rw [h0, nd_zero] at hne; omega
    · rcases hB with ⟨h1, q, d, rfl⟩ | ⟨h1, f, d, rfl, hd, hf, hs⟩
      · exfalso; have h2 := nd_pos h0; rw [h1, nd_zero] at hne; omega
      · rw [← hne] at hs ⊢
        exact cmpDigits_row g f (nd A) c d A B w hr hs (nd_lt A) (by show _ < _; rw [hne]; exact nd_lt B) ha
  · obtain ⟨p, c, rfl⟩ := hA.form
    obtain ⟨q, d, rfl⟩ := hB.form
    exact cmpDigits_len p q _ _ c d A B w rfl rfl hne

end Go.Proofs.YtpcgbcdldkmibaaGreat
namespace Go.Proofs.YtpcgbcdldkmibaaGreat
open Go.RowKit

def sg (neg : Bool) (N : Nat) : Int := if neg then -(N : Int) else (N : Int)

abbrev boxN (w : World) (n : Bool) (v : Value) (e : Int) : World := w.alloc (.cells #[.bool n, v, .int .i64 e] 92)
theorem boxN_below (w : World) (n : Bool) (v : Value) (e : Int) : Below w.heap.size w (boxN w n v e) := (Below.refl _ _).alloc (Nat.le_refl _) _

def Six (w : World) (B : Nat) (nx : Bool) (vx : Value) (ex : Int) (ny : Bool) (vy : Value) (ey : Int) : Prop :=
  w.cell? ⟨B, 0, none⟩ = some (.bool nx) ∧ w.cell? ⟨B, 1, none⟩ = some vx ∧ w.cell? ⟨B, 2, none⟩ = some (.int .i64 ex) ∧
  w.cell? ⟨B + 1, 0, none⟩ = some (.bool ny) ∧ w.cell? ⟨B + 1, 1, none⟩ = some vy ∧ w.cell? ⟨B + 1, 2, none⟩ = some (.int .i64 ey)
theorem six_box (w : World) (nx : Bool) (vx : Value) (ex : Int) (ny : Bool) (vy : Value) (ey : Int) : Six (boxN (boxN w nx vx ex) ny vy ey) w.heap.size nx vx ex ny vy ey := by
  have hb := boxN_below (boxN w nx vx ex) ny vy ey
  have hs : w.heap.size < (boxN w nx vx ex).heap.size := by simp
  refine ⟨?_, ?_, ?_, ?_, ?_, ?_⟩
  · rw [hb.cell (p := ⟨w.heap.size, 0, none⟩) hs]; simp
  · rw [hb.cell (p := ⟨w.heap.size, 1, none⟩) hs]; simp
  · rw [hb.cell (p := ⟨w.heap.size, 2, none⟩) hs]; simp
  · have e : w.heap.size + 1 = (boxN w nx vx ex).heap.size := by simp
    rw [e]; simp
  · have e : w.heap.size + 1 = (boxN w nx vx ex).heap.size := by simp
    rw [e]; simp
  · have e : w.heap.size + 1 = (boxN w nx vx ex).heap.size := by simp
    rw [e]; simp
theorem Six.below {w w' : World} {B : Nat} {nx ny : Bool} {vx vy : Value} {ex ey : Int} {s : Nat} (h : Six w B nx vx ex ny vy ey) (hb : Below s w w') (hs : B + 1 < s) : Six w' B nx vx ex ny vy ey := by
  obtain ⟨a, b, c, d, e, f⟩ := h
  exact ⟨(hb.cell (p := ⟨B, 0, none⟩) (by show B < s; omega)).trans a, (hb.cell (p := ⟨B, 1, none⟩) (by show B < s; omega)).trans b, (hb.cell (p := ⟨B, 2, none⟩) (by show B < s; omega)).trans c, (hb.cell (p := ⟨B + 1, 0, none⟩) hs).trans d, (hb.cell (p := ⟨B + 1, 1, none⟩) hs).trans e, (hb.cell (p := ⟨B + 1, 2, none⟩) hs).trans f⟩
theorem box2_size (w : World) (nx : Bool) (vx : Value) (ex : Int) (ny : Bool) (vy : Value) (ey : Int) : (boxN (boxN w nx vx ex) ny vy ey).heap.size = w.heap.size + 2 := by simp

end Go.Proofs.YtpcgbcdldkmibaaGreat
namespace Go.Proofs.YtpcgbcdldkmibaaGreat
open Go.RowKit

abbrev pbox (w : World) (nx : Bool) (vx : Value) (ex : Int) (ny : Bool) (vy : Value) (ey : Int) : World := boxN (boxN (boxN w nx vx ex) ny vy ey) false (.slice none 0 0) 0
theorem pbox_size (w : World) (nx : Bool) (vx : Value) (ex : Int) (ny : Bool) (vy : Value) (ey : Int) : (pbox w nx vx ex ny vy ey).heap.size = w.heap.size + 3 := by simp
theorem pbox_below (w : World) (nx : Bool) (vx : Value) (ex : Int) (ny : Bool) (vy : Value) (ey : Int) : Below w.heap.size w (pbox w nx vx ex ny vy ey) :=
  ((boxN_below w nx vx ex).trans ((boxN_below (boxN w nx vx ex) ny vy ey).mono (by simp))).trans ((boxN_below _ _ _ _).mono (by rw [box2_size]; omega))
theorem pbox_six (w : World) (nx : Bool) (vx : Value) (ex : Int) (ny : Bool) (vy : Value) (ey : Int) : Six (pbox w nx vx ex ny vy ey) w.heap.size nx vx ex ny vy ey :=
  (six_box w nx vx ex ny vy ey).below (boxN_below _ _ _ _) (by rw [box2_size]; omega)
theorem From.mono {A B : Nat} {v : Value} (h : From B v) (hle : A ≤ B) : From A v := fun a l c e => Nat.le_trans hle (h a l c e)

theorem box_own (w : World) (n : Bool) (v : Value) (e : Int) :
    ((boxN w n v e).cell? ⟨w.heap.size, 0, none⟩ = some (.bool n) ∧ (boxN w n v e).cell? ⟨w.heap.size, 1, none⟩ = some v ∧ (boxN w n v e).cell? ⟨w.heap.size, 2, none⟩ = some (.int .i64 e)) ∧
    ((boxN w n v e).frozen? ⟨w.heap.size, 0, none⟩ = false ∧ (boxN w n v e).frozen? ⟨w.heap.size, 1, none⟩ = false ∧ (boxN w n v e).frozen? ⟨w.heap.size, 2, none⟩ = false) := by
  refine ⟨⟨?_, ?_, ?_⟩, ?_, ?_, ?_⟩ <;> first | exact World.frozen?_alloc_new _ _ _ _ | simp
theorem pbox_res {w w' : World} {nx ny : Bool} {vx vy : Value} {ex ey : Int} (hb : Below (w.heap.size + 3) (pbox w nx vx ex ny vy ey) w') :
    (w'.cell? ⟨w.heap.size + 1 + 1, 0, none⟩ = some (.bool false) ∧ w'.cell? ⟨w.heap.size + 1 + 1, 1, none⟩ = some (.slice none 0 0) ∧ w'.cell? ⟨w.heap.size + 1 + 1, 2, none⟩ = some (.int .i64 0)) ∧
    (w'.frozen? ⟨w.heap.size + 1 + 1, 0, none⟩ = false ∧ w'.frozen? ⟨w.heap.size + 1 + 1, 1, none⟩ = false ∧ w'.frozen? ⟨w.heap.size + 1 + 1, 2, none⟩ = false) := by
  have hs : w.heap.size + 1 + 1 < w.heap.size + 3 := by omega
  have h := box_own (boxN (boxN w nx vx ex) ny vy ey) false (.slice none 0 0) 0
  rw [box2_size] at h
  obtain ⟨⟨a, b, c⟩, d, e, f⟩ := h
  exact ⟨⟨(hb.cell (p := ⟨w.heap.size + 1 + 1, 0, none⟩) hs).trans a, (hb.cell (p := ⟨w.heap.size + 1 + 1, 1, none⟩) hs).trans b, (hb.cell (p := ⟨w.heap.size + 1 + 1, 2, none⟩) hs).trans c⟩,
    (hb.frozen (p := ⟨w.heap.size + 1 + 1, 0, none⟩) hs).trans d, (hb.frozen (p := ⟨w.heap.size + 1 + 1, 1, none⟩) hs).trans e, (hb.frozen (p := ⟨w.heap.size + 1 + 1, 2, none⟩) hs).trans f⟩

def PlusEnd (w : World) (E S : Int) (x : Ending) (w' : World) : Prop :=
  ∃ neg' v' N' E', x = .returned (.agg #[.bool neg', v', .int .i64 E']) ∧ DN w' v' N' ∧ From w.heap.size v' ∧ sg neg' N' = S ∧ (E' = E ∨ (E' = 0 ∧ N' = 0)) ∧ Below w.heap.size w w'

theorem plus_tail {w w4 : World} {nx ny neg : Bool} {vx vy v : Value} {ex ey E S : Int} {N : Nat} (hb : Below (w.heap.size + 3) (pbox w nx vx ex ny vy ey) w4) (hd : DN w4 v N) (hf : From (w.heap.size + 3) v) (hs : sg neg N = S) :
    PlusEnd w E S (.returned (.agg #[.bool neg, v, .int .i64 E])) (((w4.setCell ⟨w.heap.size + 1 + 1, 0, none⟩ (.bool neg)).setCell ⟨w.heap.size + 1 + 1, 1, none⟩ v).setCell ⟨w.heap.size + 1 + 1, 2, none⟩ (.int .i64 E)) := by
  refine ⟨neg, v, N, E, rfl, ((hd.set hf (a := ⟨w.heap.size + 1 + 1, 0, none⟩) (Nat.lt_succ_self _) _).set hf (a := ⟨w.heap.size + 1 + 1, 1, none⟩) (Nat.lt_succ_self _) _).set hf (a := ⟨w.heap.size + 1 + 1, 2, none⟩) (Nat.lt_succ_self _) _, hf.mono (by omega), hs, Or.inl rfl, ?_⟩
  have h9 : w.heap.size ≤ w.heap.size + 1 + 1 := by omega
  exact ((((pbox_below w nx vx ex ny vy ey).trans (hb.mono (by omega))).setCell h9 _).setCell h9 _).setCell h9 _

end Go.Proofs.YtpcgbcdldkmibaaGreat
namespace Go.Proofs.YtpcgbcdldkmibaaGreat
open Go.RowKit

theorem plus_none {w w4 : World} {nx ny : Bool} {vx vy : Value} {ex ey E S : Int} (hb : Below (w.heap.size + 3) (pbox w nx vx ex ny vy ey) w4) (hs : 0 = S) :
    PlusEnd w E S (.returned (.agg #[.bool false, .slice none 0 0, .int .i64 0])) (((w4.setCell ⟨w.heap.size + 1 + 1, 0, none⟩ (.bool false)).setCell ⟨w.heap.size + 1 + 1, 1, none⟩ (.slice none 0 0)).setCell ⟨w.heap.size + 1 + 1, 2, none⟩ (.int .i64 0)) := by
  refine ⟨false, .slice none 0 0, 0, 0, rfl, Or.inl ⟨rfl, _, _, rfl⟩, from_nil _, hs, Or.inr ⟨rfl, rfl⟩, ?_⟩
  have h9 : w.heap.size ≤ w.heap.size + 1 + 1 := by omega
  exact ((((pbox_below w nx vx ex ny vy ey).trans (hb.mono (by omega))).setCell h9 _).setCell h9 _).setCell h9 _

end Go.Proofs.YtpcgbcdldkmibaaGreat
