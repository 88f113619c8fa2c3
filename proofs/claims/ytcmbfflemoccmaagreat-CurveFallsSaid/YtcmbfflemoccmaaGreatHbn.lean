/- The contracts of package interp's held, placesMayBe, valuesMayBe, betweenOf. The contract of the document's At: logarithmic pieces. What At tells of flat, linear and cubic tables: held between two nodes, and it never falls (rises) where the nodes do not. No word of the program. Values turned in sign: each step tells the opposite. No word of the program. Tables whose values are turned in sign: At tells the opposite. No word of the program. Values of logarithmic pieces: no NaN, and held between their nodes. No word of the program but Exp and Ln as plain functions. -/
import Derived.Test.YtcmbfflemoccmaaGreatHbm
import Derived.Test.YtcmbfflemoccmaaGreatHar
import Derived.Test.YtcmbfflemoccmaaGreatHbc
namespace Go.Proofs.YtcmbfflemoccmaaGreat
open Go.RowKit

theorem olt {x c : Nat} (h : x < 18446744073709551616) (hc : c < 18446744073709551616) : (FloatKind.f64.format.order x c == some .lt) = ltB (x : Nat) (c : Nat) := by
  unfold ltB
  cases hn : nanB (x : Int) with
  | true => rw [order_nan_left hn]; rfl
  | false =>
    cases hm : nanB (c : Int) with
    | true => rw [order_nan_right hm]; rfl
    | false => rw [lt_rank (u64N h) (u64N hc) hn hm]; rfl
theorem ogt {x c : Nat} (h : x < 18446744073709551616) (hc : c < 18446744073709551616) : (FloatKind.f64.format.order x c == some .gt) = ltB (c : Nat) (x : Nat) := by
  unfold ltB
  cases hn : nanB (x : Int) with
  | true => rw [order_nan_left hn]; simp
  | false =>
    cases hm : nanB (c : Int) with
    | true => rw [order_nan_right hm]; rfl
    | false => rw [gt_rank (u64N h) (u64N hc) hn hm]; rfl
set_option maxHeartbeats 1600000 in
theorem heldP_any (v a b : Nat) (w : World) (hv : v < 18446744073709551616) (ha : NumW a) (hb : NumW b) :
    Calls Tryz.prog 152 #[.float .f64 v, .float .f64 a, .float .f64 b] w fun e w' => e = .returned (.float .f64 (heldN v a b)) ∧ w' = w := by
  have la := ltB_iff ha.nn.nan hb.nn.nan
  have lb := ltB_iff hb.nn.nan ha.nn.nan
  have e1 := olt hb.lt ha.lt
  have e2 := eq_rank (u64N ha.lt) (u64N hb.lt) ha.nn.nan hb.nn.nan
  have va := olt hv ha.lt
  have vb := olt hv hb.lt
  have ga := ogt hv ha.lt
  have gb := ogt hv hb.lt
  obtain ⟨R, hR⟩ : ∃ R, heldN v a b = R := ⟨_, rfl⟩
  rw [hR]
  unfold heldN heldB at hR
  rcases Int.lt_trichotomy (rankI (a : Nat)) (rankI (b : Nat)) with h | h | h
  · rw [decide_eq_true h] at la
    rw [decide_eq_false (by omega)] at lb e2
    rw [lb] at e1
    rw [la, lb] at hR
    clear la lb vb ga ha hb hv h
    cases h1 : ltB (v : Nat) (a : Nat) <;> cases h2 : ltB (b : Nat) (v : Nat)
    all_goals
      rw [h1] at va hR
      rw [h2] at gb hR
      clear h1 h2
      simp at hR
      subst hR
      go_enter Tryz.func152, Tryz.ntmps152
      go_wp2
      go_ret
      exact ⟨rfl, rfl⟩
  · rw [decide_eq_false (by omega)] at la lb
    rw [decide_eq_true h] at e2
    rw [lb] at e1
    rw [la, lb] at hR
    clear la lb vb gb ha hb hv h
    cases h1 : ltB (v : Nat) (a : Nat) <;> cases h2 : ltB (a : Nat) (v : Nat)
    all_goals
      rw [h1] at va hR
      rw [h2] at ga hR
      clear h1 h2
      simp at hR
      subst hR
      go_enter Tryz.func152, Tryz.ntmps152
      go_wp2
      go_ret
      exact ⟨rfl, rfl⟩
  · rw [decide_eq_true h] at lb
    rw [decide_eq_false (by omega)] at la e2
    rw [lb] at e1
    rw [lb] at hR
    clear la lb va gb ha hb hv h
    cases h1 : ltB (v : Nat) (b : Nat) <;> cases h2 : ltB (a : Nat) (v : Nat)
    all_goals
      rw [h1] at vb hR
      rw [h2] at ga hR
      clear h1 h2
      simp at hR
      subst hR
      go_enter Tryz.func152, Tryz.ntmps152
      go_wp2
      go_ret
      exact ⟨rfl, rfl⟩

def prv (xs : List Int) : Nat → Int
  | 0 => -1
  | k + 1 => xs.getD k 0
def plB (xs : List Int) (i : Nat) : Bool := decide (xs.getD i 0 ≤ prv xs i) || decide (109572 < xs.getD i 0)
def vlB (kind : Int) (ys : List Nat) (i : Nat) : Bool := !finB (ys.getD i 0 : Nat) || (decide (kind = 4) && !ltB 0 (ys.getD i 0 : Nat))

set_option maxHeartbeats 800000 in
theorem places_len (p : Option Addr) (n c : Nat) (w : World) (h : n < 1 ∨ 256 < n) :
    Calls Tryz.prog 84 #[.slice p n c] w fun e w' => e = .returned (.bool false) ∧ w' = w := by
  rcases h with h | h
  · have d1 : decide ((n : Int) < 1) = true := decide_eq_true (by omega)
    clear h
    go_enter Tryz.func84, Tryz.ntmps84
    go_wp2
    go_ret
    exact ⟨rfl, rfl⟩
  · have d1 : decide ((n : Int) < 1) = false := decide_eq_false (by omega)
    have d2 : decide ((256 : Int) < n) = true := decide_eq_true (by omega)
    clear h
    go_enter Tryz.func84, Tryz.ntmps84
    go_wp2
    go_ret
    exact ⟨rfl, rfl⟩

set_option maxHeartbeats 1600000 in
theorem places_loop (p : Option Addr) (b off c n K : Nat) (xs : List Int) (w : World) (hX : VSrc w p b off n (xV xs)) (hn : 1 ≤ n) (hn' : n ≤ 256) (hK : K ≤ n) (fine : ∀ i < K, plB xs i = false) (bad : K < n → plB xs K = true) :
    Calls Tryz.prog 84 #[.slice p n c] w fun e w' => e = .returned (.bool (decide (n ≤ K))) ∧ w' = w := by
  obtain ⟨g, hg⟩ : ∃ g, decide (n ≤ K) = g := ⟨_, rfl⟩
  rw [hg]
  have G0 : Hid (K < n → g = false) := fun hh => by rw [← hg]; exact decide_eq_false (by omega)
  have G1 : Hid (K = n → g = true) := fun hh => by rw [← hg]; exact decide_eq_true (by omega)
  clear hg
  have HX := hideS hX
  have HF := hideS fine
  have HB := hideS bad
  obtain rfl := hX.at_ (by omega)
  have d1 : decide ((n : Int) < 1) = false := decide_eq_false (by omega)
  have d2 : decide ((256 : Int) < n) = false := decide_eq_false (by omega)
  clear hX fine bad
  go_enter Tryz.func84, Tryz.ntmps84
  go_wp2_with fail
  clear d1 d2
  go_loop [3, 5, 16] (fun l _ i => ∃ k : Nat, k ≤ K ∧ i = .int .i64 k ∧ l = .int .i64 (prv xs k)) (fun _ _ i => n - (intOf i).toNat)
  case atStart => exact ⟨0, Nat.zero_le _, rfl, rfl⟩
  case round =>
    obtain ⟨k, hk, rfl, rfl⟩ := hrel
    by_cases hkK : k < K
    · have hkn : k < n := by omega
      have c1 : w.cell? ⟨b, off + k, none⟩ = some (.int .i64 (xs.getD k 0)) := HX.out.cell k hkn
      have f := HF.out k hkK
      unfold plB at f
      rw [Bool.or_eq_false_iff] at f
      obtain ⟨f1, f2⟩ := f
      have HP := hideS (show prv xs (k + 1) = xs.getD k 0 from rfl)
      generalize prv xs k = l at *
      generalize xs.getD k 0 = y at *
      go_wp2_with fail
      go_round
      case rel => exact ⟨k + 1, by omega, by simp, by rw [HP.out]⟩
      case measure => simp [intOf]; omega
    · obtain rfl : k = K := by omega
      by_cases hl : k < n
      · have c1 : w.cell? ⟨b, off + k, none⟩ = some (.int .i64 (xs.getD k 0)) := HX.out.cell k hl
        have f := HB.out hl
        unfold plB at f
        have HG := hideS (G0.out hl)
        generalize prv xs k = l at *
        generalize xs.getD k 0 = y at *
        cases f1 : decide (y ≤ l)
        · rw [f1, Bool.false_or] at f
          go_wp2_with fail
          go_ret
          exact ⟨by rw [HG.out] <;> rfl, rfl⟩
        · clear f
          go_wp2_with fail
          go_ret
          exact ⟨by rw [HG.out] <;> rfl, rfl⟩
      · obtain rfl : k = n := by omega
        have HG := hideS (G1.out rfl)
        go_wp2_with fail
        go_ret
        exact ⟨by rw [HG.out] <;> rfl, rfl⟩

set_option maxHeartbeats 1600000 in
theorem values_loop (kind : Int) (p : Option Addr) (b off c n K : Nat) (ys : List Nat) (w : World) (hY : VSrc w p b off n (flV ys)) (hf : ∀ i < n, ys.getD i 0 < 18446744073709551616) (hn' : n ≤ 256) (hK : K ≤ n) (fine : ∀ i < K, vlB kind ys i = false) (bad : K < n → vlB kind ys K = true) :
    Calls Tryz.prog 85 #[.int .i64 kind, .slice p n c] w fun e w' => e = .returned (.bool (decide (n ≤ K))) ∧ w' = w := by
  obtain ⟨g, hg⟩ : ∃ g, decide (n ≤ K) = g := ⟨_, rfl⟩
  rw [hg]
  have G0 : Hid (K < n → g = false) := fun hh => by rw [← hg]; exact decide_eq_false (by omega)
  have G1 : Hid (K = n → g = true) := fun hh => by rw [← hg]; exact decide_eq_true (by omega)
  clear hg
  have HX := hideS hY
  have HF := hideS fine
  have HB := hideS bad
  have HU := hideS hf
  clear hY fine bad hf
  go_enter Tryz.func85, Tryz.ntmps85
  go_wp2_with fail
  go_loop [6, 9] (fun _ i => ∃ k : Nat, k ≤ K ∧ i = .int .i64 k) (fun _ i => n - (intOf i).toNat)
  case atStart => exact ⟨0, Nat.zero_le _, rfl⟩
  case round =>
    obtain ⟨k, hk, rfl⟩ := hrel
    by_cases hl : k < n
    · have c1 : w.cell? ⟨b, off + k, none⟩ = some (.float .f64 (ys.getD k 0)) := HX.out.cell k hl
      obtain rfl := HX.out.at_ (by omega)
      have hu := HU.out k hl
      have H1 := hideS fun w => isNaN_math (ys.getD k 0) w (u64N hu)
      have hv : vlB kind ys k = decide (K ≤ k) := by
        by_cases hkK : k < K
        · rw [HF.out k hkK, decide_eq_false (by omega)]
        · obtain rfl : k = K := by omega
          rw [HB.out hl, decide_eq_true (Nat.le_refl k)]
      have o1 := olt hu (show (0 : Nat) < 18446744073709551616 by decide)
      unfold vlB at hv
      cases hn : nanB (ys.getD k 0 : Nat) with
      | true =>
        rw [fin_nan hn, Bool.not_false, Bool.true_or] at hv
        have hKk := of_decide_eq_true hv.symm
        have HG := hideS (G0.out (by omega))
        rw [hn] at H1
        clear hv o1 hn hKk hu
        generalize ys.getD k 0 = y at *
        go_wp2_with (first | (go_at_call 119; refine (H1.out _).mono ?_; rintro e w' ⟨rfl, rfl⟩))
        go_ret
        exact ⟨by rw [HG.out] <;> rfl, rfl⟩
      | false =>
        have H2 := hideS fun w => isInf_both (ys.getD k 0) _ w (u64N hu) (inf_gt hn)
        have o2 := eq_rank (u64N hu) (u64N (show (0 : Nat) < 18446744073709551616 by decide)) hn (by decide)
        have o3 : ltB 0 (ys.getD k 0 : Nat) = !((FloatKind.f64.format.order (ys.getD k 0) 0 == some .lt) || (FloatKind.f64.format.order (ys.getD k 0) 0 == some .eq)) := by
          rw [o1, o2, ltB_iff (by decide) hn]
          have r0 : rankI ((0 : Nat) : Int) = 0 := by decide
          have r0' : rankI (0 : Int) = 0 := by decide
          have e : ltB (ys.getD k 0 : Nat) ((0 : Nat) : Int) = decide (rankI (ys.getD k 0 : Nat) < 0) := by rw [ltB_iff hn (by decide), r0]
          rw [e, r0, r0']
          generalize rankI (ys.getD k 0 : Nat) = r
          by_cases q1 : r < 0 <;> by_cases q2 : r = 0 <;> by_cases q3 : 0 < r <;> simp [q1, q2, q3] <;> omega
        rw [o3] at hv
        rw [hn] at H1
        clear o1 o2 o3 hu hn
        generalize ys.getD k 0 = y at *
        cases hfy : finB (y : Nat) with
        | false =>
          rw [hfy] at H2 hv
          rw [Bool.not_false, Bool.true_or] at hv
          have hKk := of_decide_eq_true hv.symm
          have HG := hideS (G0.out (by omega))
          clear hv hKk hfy
          go_wp2_with (first | (go_at_call 119; refine (H1.out _).mono ?_; rintro e w' ⟨rfl, rfl⟩) | (go_at_call 56; refine (H2.out _).mono ?_; rintro e w' ⟨rfl, rfl⟩))
          go_ret
          exact ⟨by rw [HG.out] <;> rfl, rfl⟩
        | true =>
          rw [hfy] at H2 hv
          rw [Bool.not_true, Bool.false_or, Bool.not_not] at hv
          clear hfy
          cases h4 : decide (kind = 4) with
          | false =>
            rw [h4, Bool.false_and] at hv
            have hKk := of_decide_eq_false hv.symm
            have h4' : (kind == 4) = false := beq_eq_false_iff_ne.2 (of_decide_eq_false h4)
            clear hv h4
            go_wp2_with (first | (go_at_call 119; refine (H1.out _).mono ?_; rintro e w' ⟨rfl, rfl⟩) | (go_at_call 56; refine (H2.out _).mono ?_; rintro e w' ⟨rfl, rfl⟩))
            go_round
            case rel => exact ⟨k + 1, by omega, by simp⟩
            case measure => simp [intOf]; omega
          | true =>
            rw [h4, Bool.true_and] at hv
            obtain rfl := of_decide_eq_true h4
            clear h4
            cases a1 : (FloatKind.f64.format.order y 0 == some .lt) <;> cases a2 : (FloatKind.f64.format.order y 0 == some .eq)
            all_goals
              rw [a1, a2] at hv
            · have hKk := of_decide_eq_false hv.symm
              clear hv
              go_wp2_with (first | (go_at_call 119; refine (H1.out _).mono ?_; rintro e w' ⟨rfl, rfl⟩) | (go_at_call 56; refine (H2.out _).mono ?_; rintro e w' ⟨rfl, rfl⟩))
              go_round
              case rel => exact ⟨k + 1, by omega, by simp⟩
              case measure => simp [intOf]; omega
            all_goals
              have hKk := of_decide_eq_true hv.symm
              have HG := hideS (G0.out (by omega))
              clear hv hKk
              go_wp2_with (first | (go_at_call 119; refine (H1.out _).mono ?_; rintro e w' ⟨rfl, rfl⟩) | (go_at_call 56; refine (H2.out _).mono ?_; rintro e w' ⟨rfl, rfl⟩))
              go_ret
              exact ⟨by rw [HG.out] <;> rfl, rfl⟩
    · obtain rfl : k = n := by omega
      obtain rfl : K = k := by omega
      have HG := hideS (G1.out rfl)
      go_wp2_with fail
      go_ret
      exact ⟨by rw [HG.out] <;> rfl, rfl⟩

set_option maxHeartbeats 800000 in
theorem betweenOf_none (k : Int) (w : World) (h : k < 1 ∨ 4 < k) :
    Calls Tryz.prog 83 #[.int .i64 k] w fun e w' => e = .returned .nilFunc ∧ w' = w := by
  have h1 : (k == 1) = false := beq_eq_false_iff_ne.2 (by omega)
  have h2 : (k == 2) = false := beq_eq_false_iff_ne.2 (by omega)
  have h3 : (k == 3) = false := beq_eq_false_iff_ne.2 (by omega)
  have h4 : (k == 4) = false := beq_eq_false_iff_ne.2 (by omega)
  clear h
  go_enter Tryz.func83, Tryz.ntmps83
  go_wp2_with fail
  go_ret
  exact ⟨rfl, rfl⟩
def kindF (kind : Int) : Nat := if kind = 1 then 115 else if kind = 2 then 116 else if kind = 3 then 117 else 118
set_option maxHeartbeats 800000 in
theorem betweenOf_some (k : Int) (w : World) (h1 : 1 ≤ k) (h4 : k ≤ 4) :
    Calls Tryz.prog 83 #[.int .i64 k] w fun e w' => e = .returned (.func (.func (kindF k)) #[] #[]) ∧ w' = w := by
  rcases (show k = 1 ∨ k = 2 ∨ k = 3 ∨ k = 4 by omega) with rfl | rfl | rfl | rfl
  all_goals
    clear h1 h4
    go_enter Tryz.func83, Tryz.ntmps83
    go_wp2_with fail
    go_ret
    exact ⟨rfl, rfl⟩
end Go.Proofs.YtcmbfflemoccmaaGreat
namespace Go.Proofs.YtcmbfflemoccmaaGreat
open Go.RowKit

def LRd (w : World) (B : Nat) (vy : Value) (b2 oy k : Nat) (y0 y1 : Nat) : Prop :=
  w.cell? ⟨B, 2, none⟩ = some vy ∧ w.cell? ⟨b2, oy + k, none⟩ = some (.int .u64 (y0 : Int)) ∧ w.cell? ⟨b2, oy + (k + 1), none⟩ = some (.int .u64 (y1 : Int))
theorem LRd.below {w w' : World} {B s : Nat} {vy : Value} {b2 oy k : Nat} {y0 y1 : Nat} (h : LRd w B vy b2 oy k y0 y1) (hb : Below s w w') (hB : B < s) (hy : b2 < s) : LRd w' B vy b2 oy k y0 y1 :=
  ⟨(hb.cell (p := ⟨B, 2, none⟩) hB).trans h.1, (hb.cell (p := ⟨b2, oy + k, none⟩) hy).trans h.2.1, (hb.cell (p := ⟨b2, oy + (k + 1), none⟩) hy).trans h.2.2⟩
theorem LRd.alloc {w : World} {B : Nat} {vy : Value} {b2 oy k : Nat} {y0 y1 : Nat} (h : LRd w B vy b2 oy k y0 y1) (hB : B < w.heap.size) (hy : b2 < w.heap.size) (o : Obj) : LRd (w.alloc o) B vy b2 oy k y0 y1 :=
  h.below ((Below.refl w.heap.size w).alloc (Nat.le_refl _) o) hB hy
abbrev oW (a b : Int) : Obj := .cells #[.int .i64 a, .int .i64 b] 3
abbrev oL (a b : Nat) : Obj := .cells #[.int .u64 (a : Int), .int .u64 (b : Int)] 51
theorem two_srcU (w : World) (a b : Nat) : VSrc (w.alloc (oL a b)) (some ⟨w.heap.size, 0, none⟩) w.heap.size 0 2 (yV [a, b]) :=
  ⟨fun _ => rfl, fun _ => by simp, fun j hj => by
    rcases (show j = 0 ∨ j = 1 by omega) with rfl | rfl
    · simp [yV]
    · simp [yV]⟩
theorem VSrc.alloc {w : World} {p : Option Addr} {b off n : Nat} {f : Nat → Value} (h : VSrc w p b off n f) (o : Obj) : VSrc (w.alloc o) p b off n f := h.below ((Below.refl _ w).alloc (Nat.le_refl _) o)
theorem VSrc.drew {w : World} {p : Option Addr} {b off n : Nat} {f : Nat → Value} (h : VSrc w p b off n f) : VSrc w.drew p b off n f := ⟨h.at_, h.lt, h.cell⟩
set_option maxRecDepth 20000 in
set_option maxHeartbeats 6400000 in
theorem at_log (x : Int) (bx ox cx b2 oy cy n k D : Nat) (x0 x1 i : Int) (y0 y1 l0 l1 ev : Nat) (w : World)
    (hR : ∀ w', TBox w 4 (.slice (some ⟨bx, ox, none⟩) n cx) (.slice (some ⟨b2, oy, none⟩) n cy) w' → ARd w' w.heap.size 4 (.slice (some ⟨bx, ox, none⟩) n cx) (.slice (some ⟨b2, oy, none⟩) n cy) bx ox b2 oy k x0 x1 y0 y1)
    (hk : k + 1 < n) (hn : n ≤ 256) (h0 : 0 ≤ x0) (h1 : x1 ≤ 109572) (hD : x1 - x0 = (D : Int)) (hi : x - x0 = i) (hi0 : 0 < i) (hi1 : i < (D : Int)) (hy0 : y0 < 18446744073709551616) (hy1 : y1 < 18446744073709551616) (hl0 : l0 < 18446744073709551616) (hl1 : l1 < 18446744073709551616) (hev : ev < 18446744073709551616)
    (HL0 : Hid (∀ wx, Calls Tryz.prog 62 #[.int .u64 (y0 : Int)] wx fun e w' => e = .returned (.int .u64 (l0 : Int)) ∧ Below wx.heap.size wx w'))
    (HL1 : Hid (∀ wx, Calls Tryz.prog 62 #[.int .u64 (y1 : Int)] wx fun e w' => e = .returned (.int .u64 (l1 : Int)) ∧ Below wx.heap.size wx w'))
    (HEx : Hid (∀ wx, Calls Tryz.prog 61 #[.int .u64 (overSt (wAt [(D : Int) - i, i] [l0, l1] 2) D : Int)] wx fun e w' => e = .returned (.int .u64 (ev : Int)) ∧ Below wx.heap.size wx w'))
    (H : Hid (FndH w 4 (.slice (some ⟨bx, ox, none⟩) n cx) (.slice (some ⟨b2, oy, none⟩) n cy) x (k : Int) 0)) :
    Calls Tryz.prog 40 #[.agg #[.int .i64 4, .slice (some ⟨bx, ox, none⟩) n cx, .slice (some ⟨b2, oy, none⟩) n cy], .int .i64 x] w fun e w' => e = .returned (.tuple #[.int .u64 (heldN ev y0 y1 : Int), .int .i64 0]) ∧ Below w.heap.size w w' := by
  have HB := hideS (tbox_at w 4 (.slice (some ⟨bx, ox, none⟩) n cx) (.slice (some ⟨b2, oy, none⟩) n cy))
  unfold FndH at H
  have HR := hideS hR
  have HHd := hideS fun wx => heldN_any ev y0 y1 wx hev hy0 hy1
  have HBt : Hid (∀ wx g1 g2, VSrc wx (some ⟨g1, 0, none⟩) g1 0 2 (xV [(D : Int) - i, i]) → VSrc wx (some ⟨g2, 0, none⟩) g2 0 2 (yV [l0, l1]) → Calls Tryz.prog 59 #[.slice (some ⟨g1, 0, none⟩) 2 2, .slice (some ⟨g2, 0, none⟩) 2 2, .int .i64 (D : Int)] wx fun e w' => e = .returned (.int .u64 (overSt (wAt [(D : Int) - i, i] [l0, l1] 2) D : Int)) ∧ Below wx.heap.size wx w') := fun wx g1 g2 s1 s2 =>
    between_any g1 0 2 g2 0 2 2 D [(D : Int) - i, i] [l0, l1] wx s1 s2 (by omega) (by omega) (fun j hj => by
      rcases (show j = 0 ∨ j = 1 by omega) with rfl | rfl
      · show -9007199254740992 ≤ (D : Int) - i ∧ (D : Int) - i ≤ _; omega
      · show -9007199254740992 ≤ i ∧ i ≤ _; omega) (fun j hj => by
      rcases (show j = 0 ∨ j = 1 by omega) with rfl | rfl
      · exact hl0
      · exact hl1) (by omega) (by omega)
  generalize overSt (wAt [(D : Int) - i, i] [l0, l1] 2) D = R at *
  generalize heldN ev y0 y1 = V at *
  have f1 : IntKind.i64.wrap ((k : Int) + 1) = (k : Int) + 1 := by rw [IntKind.wrap_i64]; omega
  have f2 : IntKind.i64.wrap (x1 - x0) = x1 - x0 := by rw [IntKind.wrap_i64]; omega
  have f3 : IntKind.i64.wrap (x - x0) = x - x0 := by rw [IntKind.wrap_i64]; omega
  have g1 : (0 : Int) ≤ (k : Int) + 1 := by omega
  have g2 : (k : Int) + 1 < (n : Int) := by omega
  have g3 : (0 : Int) ≤ (k : Int) := by omega
  have g4 : (k : Int) < (n : Int) := by omega
  have hx : (x0 == x) = false := beq_false_of_ne (by omega)
  have hDl : (D : Int) ≤ 109572 := by omega
  clear hR hy0 hy1 hl0 hl1 hev
  go_enter Tryz.func40, Tryz.ntmps40
  go_wp2_with fail
  refine (H.out _ HB.out.bl).mono ?_
  rintro e w1 ⟨rfl, hb1⟩
  have HB1 := hideS (HB.out.step hb1)
  clear hb1
  have hA := HR.out w1 HB1.out
  obtain ⟨t0, t1, t2, a0, a1, b0, b1, ly⟩ := hA
  go_wp2_with fail
  go_quiet (fail)
  obtain ⟨wq, hwq⟩ : ∃ wq, w1.drewN nq = wq := ⟨_, rfl⟩
  rw [hwq]
  have HBq : Hid (TBox w 4 (.slice (some ⟨bx, ox, none⟩) n cx) (.slice (some ⟨b2, oy, none⟩) n cy) wq) := by show TBox _ _ _ _ _; rw [← hwq]; exact HB1.out.drewN nq
  clear hwq t0 t1 t2 a0 a1 b0 b1 ly HB1
  obtain ⟨t0, t1, t2, a0, a1, b0, b1, ly⟩ := HR.out wq HBq.out
  have HZ : Hid (w.heap.size < wq.heap.size ∧ b2 < wq.heap.size) := ⟨HBq.out.lt, ly⟩
  have K0 : Hid (LRd wq w.heap.size (.slice (some ⟨b2, oy, none⟩) n cy) b2 oy k y0 y1) := ⟨t2, b0, b1⟩
  have K0a : Hid (∀ o, LRd (wq.alloc o) w.heap.size (.slice (some ⟨b2, oy, none⟩) n cy) b2 oy k y0 y1) := fun o => K0.out.alloc HZ.out.1 HZ.out.2 o
  have Bq : Hid (Below w.heap.size w wq) := HBq.out.bl
  have HL0a := hideS (HL0.out wq.drew)
  have HL0b := hideS (HL0.out (wq.alloc (oW ((D : Int) - i) i)).drew)
  have hsq : Hid ((wq.alloc (oW ((D : Int) - i) i)).heap.size = wq.heap.size + 1) := by show _ = _; simp
  clear ly f2 f1 g1 g2
  have HFs : Hid (IntKind.i64.wrap ((k : Int) + 1) = (k : Int) + 1 ∧ (0 : Int) ≤ (k : Int) + 1 ∧ (k : Int) + 1 < (n : Int) ∧ IntKind.i64.wrap ((D : Int) - i) = (D : Int) - i) := ⟨by rw [IntKind.wrap_i64]; omega, by omega, by omega, by rw [IntKind.wrap_i64]; omega⟩
  go_wp2_with fail
  obtain ⟨f1, g1, g2, f5⟩ := HFs.out
  go_region_held3 (fun x => x.cell? ⟨w.heap.size, 2, none⟩ = some (.slice (some ⟨b2, oy, none⟩) n cy) ∧ x.cell? ⟨b2, oy + k, none⟩ = some (.int .u64 (y0 : Int)) ∧ x.cell? ⟨b2, oy + (k + 1), none⟩ = some (.int .u64 (y1 : Int))) (first | exact K0.out | exact K0a.out _ | exact K3.out | exact K3a.out _ | exact K4.out | exact K4a.out _ | exact K4b.out _ _ | exact K5.out | exact K6.out | go_keep) (first
    | ((go_at_call 62; (with_reducible refine HL0a.out.mono ?_); rintro e w3 ⟨rfl, hb3⟩; have B3 := hideS (Bq.out.drew.trans (hb3.mono Bq.out.size)); have K3 := hideS (LRd.below (w := wq.drew) K0.out hb3 HZ.out.1 HZ.out.2); have z3 : Hid (wq.heap.size ≤ w3.heap.size) := hb3.size; have K3a : Hid (∀ o, LRd (w3.alloc o) w.heap.size (.slice (some ⟨b2, oy, none⟩) n cy) b2 oy k y0 y1) := (fun o => K3.out.alloc (Nat.lt_of_lt_of_le HZ.out.1 z3.out) (Nat.lt_of_lt_of_le HZ.out.2 z3.out) o); have HL1a := hideS (HL1.out w3); have HL1b := hideS (HL1.out (w3.alloc (oW ((D : Int) - i) i))); clear hb3))
    | ((go_at_call 62; (with_reducible refine HL0b.out.mono ?_); rintro e w3 ⟨rfl, hb3⟩; have B3 := hideS ((Bq.out.alloc Bq.out.size (oW ((D : Int) - i) i)).drew.trans (hb3.mono (by have := Bq.out.size; show w.heap.size ≤ (wq.alloc (oW ((D : Int) - i) i)).heap.size; rw [hsq.out]; omega))); have K3 := hideS (LRd.below (w := (wq.alloc (oW ((D : Int) - i) i)).drew) (K0a.out _) hb3 (show w.heap.size < (wq.alloc (oW ((D : Int) - i) i)).heap.size by rw [hsq.out]; have := HZ.out.1; omega) (show b2 < (wq.alloc (oW ((D : Int) - i) i)).heap.size by rw [hsq.out]; have := HZ.out.2; omega)); have z3 : Hid (wq.heap.size ≤ w3.heap.size) := (Nat.le_trans (show wq.heap.size ≤ (wq.alloc (oW ((D : Int) - i) i)).heap.size by rw [hsq.out]; omega) hb3.size); have S3 := hideS ((two_src wq ((D : Int) - i) i).drew.below hb3); have HL1c := hideS (HL1.out w3); clear hb3))
    | ((go_at_call 62; (with_reducible refine HL1a.out.mono ?_); rintro e w4 ⟨rfl, hb4⟩; have B4 := hideS (B3.out.trans (hb4.mono B3.out.size)); have K4 := hideS (K3.out.below hb4 (Nat.lt_of_lt_of_le HZ.out.1 z3.out) (Nat.lt_of_lt_of_le HZ.out.2 z3.out)); have z4 : Hid (wq.heap.size ≤ w4.heap.size) := (Nat.le_trans z3.out hb4.size); have K4a : Hid (∀ o, LRd (w4.alloc o) w.heap.size (.slice (some ⟨b2, oy, none⟩) n cy) b2 oy k y0 y1) := (fun o => K4.out.alloc (Nat.lt_of_lt_of_le HZ.out.1 z4.out) (Nat.lt_of_lt_of_le HZ.out.2 z4.out) o); have K4b : Hid (∀ o o', LRd ((w4.alloc o).alloc o') w.heap.size (.slice (some ⟨b2, oy, none⟩) n cy) b2 oy k y0 y1) := (fun o o' => (K4a.out o).alloc (by simp; have := z4.out; have := HZ.out.1; omega) (by simp; have := z4.out; have := HZ.out.2; omega) o'); have HB3o := hideS (HBt.out ((w4.alloc (oW ((D : Int) - i) i)).alloc (oL l0 l1)) w4.heap.size (w4.alloc (oW ((D : Int) - i) i)).heap.size ((two_src w4 _ _).alloc _) (two_srcU _ _ _)); have HB4o := hideS (HBt.out ((w4.alloc (oL l0 l1)).alloc (oW ((D : Int) - i) i)) (w4.alloc (oL l0 l1)).heap.size w4.heap.size (two_src _ _ _) ((two_srcU w4 _ _).alloc _)); have hs4 : Hid ((w4.alloc (oW ((D : Int) - i) i)).heap.size = w4.heap.size + 1 ∧ (w4.alloc (oL l0 l1)).heap.size = w4.heap.size + 1) := ⟨by simp, by simp⟩; rw [hs4.out.1] at HB3o; rw [hs4.out.2] at HB4o; have B4x : Hid (∀ o o', Below w.heap.size w ((w4.alloc o).alloc o')) := (fun o o' => (B4.out.alloc B4.out.size o).alloc (by simp; have := B4.out.size; omega) o'); have Z4x : Hid (∀ o o', wq.heap.size ≤ ((w4.alloc o).alloc o').heap.size) := (fun o o' => by simp; have := z4.out; omega); clear hb4))
    | ((go_at_call 62; (with_reducible refine HL1b.out.mono ?_); rintro e w4 ⟨rfl, hb4⟩; have hs3 : Hid ((w3.alloc (oW ((D : Int) - i) i)).heap.size = w3.heap.size + 1) := (by show _ = _; simp); have B3w : Hid (Below w.heap.size w (w3.alloc (oW ((D : Int) - i) i))) := (B3.out.alloc B3.out.size (oW ((D : Int) - i) i)); have B4 := hideS (B3w.out.trans (hb4.mono B3w.out.size)); have K4 := hideS ((K3a.out _).below hb4 (by rw [hs3.out]; have := z3.out; have := HZ.out.1; omega) (by rw [hs3.out]; have := z3.out; have := HZ.out.2; omega)); have z4 : Hid (wq.heap.size ≤ w4.heap.size) := (Nat.le_trans (Nat.le_trans z3.out (by rw [hs3.out]; omega)) hb4.size); have K4a : Hid (∀ o, LRd (w4.alloc o) w.heap.size (.slice (some ⟨b2, oy, none⟩) n cy) b2 oy k y0 y1) := (fun o => K4.out.alloc (Nat.lt_of_lt_of_le HZ.out.1 z4.out) (Nat.lt_of_lt_of_le HZ.out.2 z4.out) o); have K4b : Hid (∀ o o', LRd ((w4.alloc o).alloc o') w.heap.size (.slice (some ⟨b2, oy, none⟩) n cy) b2 oy k y0 y1) := (fun o o' => (K4a.out o).alloc (by simp; have := z4.out; have := HZ.out.1; omega) (by simp; have := z4.out; have := HZ.out.2; omega) o'); have HB2o := hideS (HBt.out (w4.alloc (oL l0 l1)) w3.heap.size w4.heap.size (((two_src w3 _ _).below hb4).alloc _) (two_srcU w4 _ _)); have B4x : Hid (∀ o, Below w.heap.size w (w4.alloc o)) := (fun o => B4.out.alloc B4.out.size o); clear hb4))
    | ((go_at_call 62; (with_reducible refine HL1c.out.mono ?_); rintro e w4 ⟨rfl, hb4⟩; have B4 := hideS (B3.out.trans (hb4.mono B3.out.size)); have K4 := hideS (K3.out.below hb4 (Nat.lt_of_lt_of_le HZ.out.1 z3.out) (Nat.lt_of_lt_of_le HZ.out.2 z3.out)); have z4 : Hid (wq.heap.size ≤ w4.heap.size) := (Nat.le_trans z3.out hb4.size); have K4a : Hid (∀ o, LRd (w4.alloc o) w.heap.size (.slice (some ⟨b2, oy, none⟩) n cy) b2 oy k y0 y1) := (fun o => K4.out.alloc (Nat.lt_of_lt_of_le HZ.out.1 z4.out) (Nat.lt_of_lt_of_le HZ.out.2 z4.out) o); have K4b : Hid (∀ o o', LRd ((w4.alloc o).alloc o') w.heap.size (.slice (some ⟨b2, oy, none⟩) n cy) b2 oy k y0 y1) := (fun o o' => (K4a.out o).alloc (by simp; have := z4.out; have := HZ.out.1; omega) (by simp; have := z4.out; have := HZ.out.2; omega) o'); have HB1o := hideS (HBt.out (w4.alloc (oL l0 l1)) wq.heap.size w4.heap.size ((S3.out.below hb4).alloc _) (two_srcU w4 _ _)); have B4x : Hid (∀ o, Below w.heap.size w (w4.alloc o)) := (fun o => B4.out.alloc B4.out.size o); clear hb4))
    | ((go_at_call 59; (with_reducible refine HB1o.out.mono ?_); rintro e w5 ⟨rfl, hb5⟩; have B5 := hideS ((B4x.out _).trans (hb5.mono (B4x.out _).size)); have K5 := hideS ((K4a.out _).below hb5 (by simp; have := z4.out; have := HZ.out.1; omega) (by simp; have := z4.out; have := HZ.out.2; omega)); have z5 : Hid (wq.heap.size ≤ w5.heap.size) := (Nat.le_trans (by simp; have := z4.out; omega) hb5.size); clear hb5))
    | ((go_at_call 59; (with_reducible refine HB2o.out.mono ?_); rintro e w5 ⟨rfl, hb5⟩; have B5 := hideS ((B4x.out _).trans (hb5.mono (B4x.out _).size)); have K5 := hideS ((K4a.out _).below hb5 (by simp; have := z4.out; have := HZ.out.1; omega) (by simp; have := z4.out; have := HZ.out.2; omega)); have z5 : Hid (wq.heap.size ≤ w5.heap.size) := (Nat.le_trans (by simp; have := z4.out; omega) hb5.size); clear hb5))
    | ((go_at_call 59; (with_reducible refine HB3o.out.mono ?_); rintro e w5 ⟨rfl, hb5⟩; have B5 := hideS ((B4x.out _ _).trans (hb5.mono (B4x.out _ _).size)); have K5 := hideS ((K4b.out _ _).below hb5 (by simp; have := z4.out; have := HZ.out.1; omega) (by simp; have := z4.out; have := HZ.out.2; omega)); have z5 : Hid (wq.heap.size ≤ w5.heap.size) := (Nat.le_trans (by simp; have := z4.out; omega) hb5.size); clear hb5))
    | ((go_at_call 59; (with_reducible refine HB4o.out.mono ?_); rintro e w5 ⟨rfl, hb5⟩; have B5 := hideS ((B4x.out _ _).trans (hb5.mono (B4x.out _ _).size)); have K5 := hideS ((K4b.out _ _).below hb5 (by simp; have := z4.out; have := HZ.out.1; omega) (by simp; have := z4.out; have := HZ.out.2; omega)); have z5 : Hid (wq.heap.size ≤ w5.heap.size) := (Nat.le_trans (by simp; have := z4.out; omega) hb5.size); clear hb5))
    | ((go_at_call 61; refine (HEx.out _).mono ?_; rintro e w6 ⟨rfl, hb6⟩; have B6 := hideS (B5.out.trans (hb6.mono B5.out.size)); have K6 := hideS (K5.out.below hb6 (Nat.lt_of_lt_of_le HZ.out.1 z5.out) (Nat.lt_of_lt_of_le HZ.out.2 z5.out)); clear hb6)))
  all_goals
    clear t0 t1 t2 a0 a1 b0 b1
    obtain ⟨u2, u0, u1⟩ := K6.out
    go_wp2_with fail
    go_quiet ((go_at_call 63; exact Calls.quiet_of_same (HHd.out _)))
    go_wp2_with fail
    go_ret2
    exact ⟨rfl, B6.out.os, B6.out.tape, B6.out.output, B6.out.size, B6.out.block⟩
def logV (ln ex : Nat → Nat) (ys : List Nat) (k D : Nat) (i : Int) : Nat := heldN (ex (overSt (wAt [(D : Int) - i, i] [ln (ys.getD k 0), ln (ys.getD (k + 1) 0)] 2) D)) (ys.getD k 0) (ys.getD (k + 1) 0)
theorem ref10At_log (ln ex : Nat → Nat) (x : Int) (px py : Option Addr) (bx ox cx b2 oy cy n k D : Nat) (i : Int) (xs : List Int) (ys : List Nat) (w : World) (h : OkT 4 xs ys) (hn : xs.length = n) (hf : FindO 4 xs ys x (k : Int) 0) (hI : Inside xs x k D i) (hs : TSrc w px py bx ox b2 oy xs ys)
    (hln : ∀ y, ln y < 18446744073709551616) (hex : ∀ y, ex y < 18446744073709551616)
    (HL : ∀ j, j = k ∨ j = k + 1 → ∀ wx, Calls Tryz.prog 62 #[.int .u64 (ys.getD j 0 : Nat)] wx fun e w' => e = .returned (.int .u64 (ln (ys.getD j 0) : Nat)) ∧ Below wx.heap.size wx w')
    (HE : ∀ wx, Calls Tryz.prog 61 #[.int .u64 (overSt (wAt [(D : Int) - i, i] [ln (ys.getD k 0), ln (ys.getD (k + 1) 0)] 2) D : Nat)] wx fun e w' => e = .returned (.int .u64 (ex (overSt (wAt [(D : Int) - i, i] [ln (ys.getD k 0), ln (ys.getD (k + 1) 0)] 2) D) : Nat)) ∧ Below wx.heap.size wx w') :
    Calls Tryz.prog 40 #[.agg #[.int .i64 4, .slice px n cx, .slice py n cy], .int .i64 x] w fun e w' => e = .returned (.tuple #[.int .u64 (logV ln ex ys k D i : Int), .int .i64 0]) ∧ Below w.heap.size w w' := by
  have hyl := h.len
  have hhi := h.hi
  have hlt := hI.lt
  have H : FndH w 4 (.slice px n cx) (.slice py n cy) x (k : Int) 0 := fun wx hb => by
    have := ref10Find_any 4 x k 0 px py bx ox cx b2 oy cy xs ys wx hf (hs.below hb)
    rw [hyl, hn] at this
    exact this
  obtain rfl := hs.x.at_ (by omega)
  obtain rfl := hs.y.at_ (by omega)
  have n0 := node_fine (h.node k (by omega))
  have n1 := node_fine (h.node (k + 1) (by omega))
  exact at_log x bx ox cx b2 oy cy n k D (xs.getD k 0) (xs.getD (k + 1) 0) i (ys.getD k 0) (ys.getD (k + 1) 0) (ln (ys.getD k 0)) (ln (ys.getD (k + 1) 0)) _ w (fun w' ht => by
      have hs' := hs.below ht.bl
      exact ⟨ht.t0, ht.t1, ht.t2, hs'.x.cell k (by omega), hs'.x.cell (k + 1) (by omega), hs'.y.cell k (by omega), hs'.y.cell (k + 1) (by omega), hs'.y.lt (by omega)⟩)
    (by omega) (by omega) n0.1 n1.2.1 hI.hD hI.hi hI.lo hI.hi' (by have := (hs.f k (by omega)).2; omega) (by have := (hs.f (k + 1) (by omega)).2; omega) (hln _) (hln _) (hex _) (HL k (Or.inl rfl)) (HL (k + 1) (Or.inr rfl)) HE H
end Go.Proofs.YtcmbfflemoccmaaGreat
namespace Go.Proofs.YtcmbfflemoccmaaGreat
open Go.RowKit

inductive AtR (xs : List Int) (ys : List Nat) : Int → Int → Nat → Nat → Prop
  | node (kind x : Int) (k : Nat) (h : xs.getD k 0 = x) : AtR xs ys kind x k (ys.getD k 0)
  | flat (x : Int) (k : Nat) (h : xs.getD k 0 ≠ x) : AtR xs ys 1 x k (ys.getD k 0)
  | lin (x : Int) (k D : Nat) (i : Int) (h : Inside xs x k D i) : AtR xs ys 2 x k (linV ys k D i)
  | cub (x : Int) (k D : Nat) (i : Int) (h : Inside xs x k D i) : AtR xs ys 3 x k (cubV (ptL xs ys k) D i)
theorem inside_D {kind : Int} {xs : List Int} {ys : List Nat} {x : Int} {k D : Nat} {i : Int} (h : OkT kind xs ys) (hI : Inside xs x k D i) : 0 < D ∧ (D : Int) ≤ 109572 := by
  have n0 := node_fine (h.node k (by have := hI.lt; omega))
  have n1 := node_fine (h.node (k + 1) hI.lt)
  have := hI.hD
  have := hI.lo
  have := hI.hi'
  omega
theorem ptL_up {kind : Int} {xs : List Int} {ys : List Nat} {k : Nat} (h : OkT kind xs ys) (hf : ∀ i < ys.length, U64 (ys.getD i 0 : Nat)) (hk : k + 1 < xs.length) (hr : rankI (ys.getD k 0 : Nat) ≤ rankI (ys.getD (k + 1) 0 : Nat)) : ∃ p q, ptL xs ys k = [ys.getD k 0, p, q, ys.getD (k + 1) 0] ∧ Up4 (ys.getD k 0) p q (ys.getD (k + 1) 0) := by
  have hs := h.step hk
  have n0 := node_fine (h.node k (by omega))
  have n1 := node_fine (h.node (k + 1) hk)
  obtain ⟨a, b⟩ := fi_numW (m := xs.getD (k + 1) 0 - xs.getD k 0) (by omega) (by omega)
  exact ⟨_, _, rfl, pts_up a b (slopL_nn h hf k) (slopL_nn h hf (k + 1)) (node_num h hf (by omega)) (node_num h hf hk) hr⟩
theorem ptL_down {kind : Int} {xs : List Int} {ys : List Nat} {k : Nat} (h : OkT kind xs ys) (hf : ∀ i < ys.length, U64 (ys.getD i 0 : Nat)) (hk : k + 1 < xs.length) (hr : rankI (ys.getD (k + 1) 0 : Nat) ≤ rankI (ys.getD k 0 : Nat)) : ∃ p q, ptL xs ys k = [ys.getD k 0, p, q, ys.getD (k + 1) 0] ∧ Down4 (ys.getD k 0) p q (ys.getD (k + 1) 0) := by
  have hs := h.step hk
  have n0 := node_fine (h.node k (by omega))
  have n1 := node_fine (h.node (k + 1) hk)
  obtain ⟨a, b⟩ := fi_numW (m := xs.getD (k + 1) 0 - xs.getD k 0) (by omega) (by omega)
  exact ⟨_, _, rfl, pts_down a b (slopL_nn h hf k) (slopL_nn h hf (k + 1)) (node_num h hf (by omega)) (node_num h hf hk) hr⟩
theorem linV_val {kind : Int} {xs : List Int} {ys : List Nat} {x : Int} {k D K : Nat} {i : Int} (hK : K = 1074) (h : OkT kind xs ys) (hf : ∀ i < ys.length, U64 (ys.getD i 0 : Nat)) (hI : Inside xs x k D i) : linV ys k D i = overG (linN (D : Int) i (uI K (ys.getD k 0)) (uI K (ys.getD (k + 1) 0))) D := by
  have hl := hI.lt
  have hD := inside_D h hI
  have := hI.lo
  have := hI.hi'
  exact lin_plain hK (node_num h hf (by omega)) (node_num h hf hl) (by omega) (by omega) hD.2
theorem at_held_up {kind x : Int} {xs : List Int} {ys : List Nat} {k V : Nat} (h : OkT kind xs ys) (hf : ∀ i < ys.length, U64 (ys.getD i 0 : Nat)) (hk : k < xs.length) (hA : AtR xs ys kind x k V) (hr : k + 1 < xs.length → rankI (ys.getD k 0 : Nat) ≤ rankI (ys.getD (k + 1) 0 : Nat)) :
    U64 (V : Nat) ∧ nanB (V : Nat) = false ∧ rankI (ys.getD k 0 : Nat) ≤ rankI (V : Nat) ∧ (k + 1 < xs.length → rankI (V : Nat) ≤ rankI (ys.getD (k + 1) 0 : Nat)) := by
  have hy := node_num h hf hk
  cases hA with
  | node kind x k h' => exact ⟨u64N hy.lt, hy.nn.nan, Int.le_refl _, hr⟩
  | flat x k h' => exact ⟨u64N hy.lt, hy.nn.nan, Int.le_refl _, hr⟩
  | lin x k D i hI =>
    have hD := inside_D h hI
    have hl := hI.lt
    have a := hI.lo
    have b := hI.hi'
    rw [linV_val rfl h hf hI]
    obtain ⟨c, d, e⟩ := overG_rank (linN (D : Int) i (uI 1074 (ys.getD k 0)) (uI 1074 (ys.getD (k + 1) 0))) D
    obtain ⟨f, g⟩ := lin_held_up (K := 1074) rfl hy (node_num h hf hl) (show 0 ≤ i by omega) (show i ≤ (D : Int) by omega) hD.1 (hr hl)
    rw [e]
    exact ⟨c, d, f, fun _ => g⟩
  | cub x k D i hI =>
    have hD := inside_D h hI
    have hl := hI.lt
    have a := hI.lo
    have b := hI.hi'
    obtain ⟨p, q, hp, hu⟩ := ptL_up h hf hl (hr hl)
    rw [hp, cub_plain (K := 1074) rfl hu.n0 hu.n1 hu.n2 hu.n3 (by omega) (by omega) hD.2]
    obtain ⟨c, d, e⟩ := overG_rank (cubN (D : Int) i (uI 1074 (ys.getD k 0)) (uI 1074 p) (uI 1074 q) (uI 1074 (ys.getD (k + 1) 0))) (D * D * D)
    obtain ⟨f, g⟩ := cub_held_up (K := 1074) rfl hu (show 0 ≤ i by omega) (show i ≤ (D : Int) by omega) hD.1
    rw [e]
    exact ⟨c, d, f, fun _ => g⟩
theorem at_held_down {kind x : Int} {xs : List Int} {ys : List Nat} {k V : Nat} (h : OkT kind xs ys) (hf : ∀ i < ys.length, U64 (ys.getD i 0 : Nat)) (hk : k < xs.length) (hA : AtR xs ys kind x k V) (hr : k + 1 < xs.length → rankI (ys.getD (k + 1) 0 : Nat) ≤ rankI (ys.getD k 0 : Nat)) :
    U64 (V : Nat) ∧ nanB (V : Nat) = false ∧ rankI (V : Nat) ≤ rankI (ys.getD k 0 : Nat) ∧ (k + 1 < xs.length → rankI (ys.getD (k + 1) 0 : Nat) ≤ rankI (V : Nat)) := by
  have hy := node_num h hf hk
  cases hA with
  | node kind x k h' => exact ⟨u64N hy.lt, hy.nn.nan, Int.le_refl _, hr⟩
  | flat x k h' => exact ⟨u64N hy.lt, hy.nn.nan, Int.le_refl _, hr⟩
  | lin x k D i hI =>
    have hD := inside_D h hI
    have hl := hI.lt
    have a := hI.lo
    have b := hI.hi'
    rw [linV_val rfl h hf hI]
    obtain ⟨c, d, e⟩ := overG_rank (linN (D : Int) i (uI 1074 (ys.getD k 0)) (uI 1074 (ys.getD (k + 1) 0))) D
    obtain ⟨f, g⟩ := lin_held_down (K := 1074) rfl hy (node_num h hf hl) (show 0 ≤ i by omega) (show i ≤ (D : Int) by omega) hD.1 (hr hl)
    rw [e]
    exact ⟨c, d, g, fun _ => f⟩
  | cub x k D i hI =>
    have hD := inside_D h hI
    have hl := hI.lt
    have a := hI.lo
    have b := hI.hi'
    obtain ⟨p, q, hp, hu⟩ := ptL_down h hf hl (hr hl)
    rw [hp, cub_plain (K := 1074) rfl hu.n0 hu.n1 hu.n2 hu.n3 (by omega) (by omega) hD.2]
    obtain ⟨c, d, e⟩ := overG_rank (cubN (D : Int) i (uI 1074 (ys.getD k 0)) (uI 1074 p) (uI 1074 q) (uI 1074 (ys.getD (k + 1) 0))) (D * D * D)
    obtain ⟨f, g⟩ := cub_held_down (K := 1074) rfl hu (show 0 ≤ i by omega) (show i ≤ (D : Int) by omega) hD.1
    rw [e]
    exact ⟨c, d, g, fun _ => f⟩
theorem find_le {kind : Int} {xs : List Int} {ys : List Nat} {x y : Int} {k j : Nat} (h : OkT kind xs ys) (hk : FindR xs x k) (hj : FindR xs y j) (hxy : x ≤ y) : k ≤ j := Classical.byContradiction fun c => by
  have h1 := hj.gt (by have := hk.lt; omega)
  have h2 := hk.le
  by_cases e : k = j + 1
  · rw [e] at h2; omega
  · have := h.rise (i := j + 1) (j := k) (by omega) hk.lt
    omega
theorem nodes_up {xs : List Int} {ys : List Nat} (hu : ∀ i, i + 1 < xs.length → rankI (ys.getD i 0 : Nat) ≤ rankI (ys.getD (i + 1) 0 : Nat)) {i j : Nat} (hij : i ≤ j) (hj : j < xs.length) : rankI (ys.getD i 0 : Nat) ≤ rankI (ys.getD j 0 : Nat) := by
  obtain ⟨d, rfl⟩ : ∃ d, j = i + d := ⟨j - i, by omega⟩
  induction d with
  | zero => exact Int.le_refl _
  | succ d ih => exact Int.le_trans (ih (by omega) (by omega)) (hu (i + d) (by omega))
theorem at_rise {kind x y : Int} {xs : List Int} {ys : List Nat} {k j V W : Nat} (h : OkT kind xs ys) (hf : ∀ i < ys.length, U64 (ys.getD i 0 : Nat)) (hk : FindR xs x k) (hj : FindR xs y j) (hA : AtR xs ys kind x k V) (hB : AtR xs ys kind y j W) (hxy : x ≤ y) (hu : ∀ i, i + 1 < xs.length → rankI (ys.getD i 0 : Nat) ≤ rankI (ys.getD (i + 1) 0 : Nat)) : rankI (V : Nat) ≤ rankI (W : Nat) := by
  have hkj := find_le h hk hj hxy
  have a := at_held_up h hf hk.lt hA (hu k)
  have b := at_held_up h hf hj.lt hB (hu j)
  by_cases e : k = j
  · subst e
    cases hA with
    | node kind x k h' => exact b.2.2.1
    | flat x k h' => exact b.2.2.1
    | lin x k D i hI =>
      cases hB with
      | node _ _ _ h' => have := hI.hi; have := hI.lo; omega
      | lin _ _ D' i' hI' =>
        obtain rfl : D = D' := by have := hI.hD; have := hI'.hD; omega
        rw [linV_val (K := 1074) rfl h hf hI, linV_val (K := 1074) rfl h hf hI', (overG_rank _ _).2.2, (overG_rank _ _).2.2]
        exact lin_rise 1074 (node_num h hf hk.lt) (node_num h hf hI.lt) (by have := hI.hi; have := hI'.hi; omega) (hu k hI.lt)
    | cub x k D i hI =>
      cases hB with
      | node _ _ _ h' => have := hI.hi; have := hI.lo; omega
      | cub _ _ D' i' hI' =>
        obtain rfl : D = D' := by have := hI.hD; have := hI'.hD; omega
        have hD := inside_D h hI
        obtain ⟨p, q, hp, hu4⟩ := ptL_up h hf hI.lt (hu k hI.lt)
        have a1 := hI.lo
        have a2 := hI.hi'
        have b1 := hI'.lo
        have b2 := hI'.hi'
        rw [hp, cub_plain (K := 1074) rfl hu4.n0 hu4.n1 hu4.n2 hu4.n3 (by omega) (by omega) hD.2, cub_plain (K := 1074) rfl hu4.n0 hu4.n1 hu4.n2 hu4.n3 (by omega) (by omega) hD.2, (overG_rank _ _).2.2, (overG_rank _ _).2.2]
        exact cub_rise 1074 hu4 (by omega) (by have := hI.hi; have := hI'.hi; omega) (by omega)
  · have c := a.2.2.2 (by have := hj.lt; omega)
    exact Int.le_trans c (Int.le_trans (nodes_up hu (by omega) hj.lt) b.2.2.1)
theorem nodes_down {xs : List Int} {ys : List Nat} (hu : ∀ i, i + 1 < xs.length → rankI (ys.getD (i + 1) 0 : Nat) ≤ rankI (ys.getD i 0 : Nat)) {i j : Nat} (hij : i ≤ j) (hj : j < xs.length) : rankI (ys.getD j 0 : Nat) ≤ rankI (ys.getD i 0 : Nat) := by
  obtain ⟨d, rfl⟩ : ∃ d, j = i + d := ⟨j - i, by omega⟩
  induction d with
  | zero => exact Int.le_refl _
  | succ d ih => exact Int.le_trans (hu (i + d) (by omega)) (ih (by omega) (by omega))
theorem at_sink {kind x y : Int} {xs : List Int} {ys : List Nat} {k j V W : Nat} (h : OkT kind xs ys) (hf : ∀ i < ys.length, U64 (ys.getD i 0 : Nat)) (hk : FindR xs x k) (hj : FindR xs y j) (hA : AtR xs ys kind x k V) (hB : AtR xs ys kind y j W) (hxy : x ≤ y) (hu : ∀ i, i + 1 < xs.length → rankI (ys.getD (i + 1) 0 : Nat) ≤ rankI (ys.getD i 0 : Nat)) : rankI (W : Nat) ≤ rankI (V : Nat) := by
  have hkj := find_le h hk hj hxy
  have a := at_held_down h hf hk.lt hA (hu k)
  have b := at_held_down h hf hj.lt hB (hu j)
  by_cases e : k = j
  · subst e
    cases hA with
    | node kind x k h' => exact b.2.2.1
    | flat x k h' => exact b.2.2.1
    | lin x k D i hI =>
      cases hB with
      | node _ _ _ h' => have := hI.hi; have := hI.lo; omega
      | lin _ _ D' i' hI' =>
        obtain rfl : D = D' := by have := hI.hD; have := hI'.hD; omega
        rw [linV_val (K := 1074) rfl h hf hI, linV_val (K := 1074) rfl h hf hI', (overG_rank _ _).2.2, (overG_rank _ _).2.2]
        exact lin_sink 1074 (node_num h hf hk.lt) (node_num h hf hI.lt) (by have := hI.hi; have := hI'.hi; omega) (hu k hI.lt)
    | cub x k D i hI =>
      cases hB with
      | node _ _ _ h' => have := hI.hi; have := hI.lo; omega
      | cub _ _ D' i' hI' =>
        obtain rfl : D = D' := by have := hI.hD; have := hI'.hD; omega
        have hD := inside_D h hI
        obtain ⟨p, q, hp, hu4⟩ := ptL_down h hf hI.lt (hu k hI.lt)
        have a1 := hI.lo
        have a2 := hI.hi'
        have b1 := hI'.lo
        have b2 := hI'.hi'
        rw [hp, cub_plain (K := 1074) rfl hu4.n0 hu4.n1 hu4.n2 hu4.n3 (by omega) (by omega) hD.2, cub_plain (K := 1074) rfl hu4.n0 hu4.n1 hu4.n2 hu4.n3 (by omega) (by omega) hD.2, (overG_rank _ _).2.2, (overG_rank _ _).2.2]
        exact cub_sink 1074 hu4 (by omega) (by have := hI.hi; have := hI'.hi; omega) (by omega)
  · have c := a.2.2.2 (by have := hj.lt; omega)
    exact Int.le_trans b.2.2.1 (Int.le_trans (nodes_down hu (by omega) hj.lt) c)
end Go.Proofs.YtcmbfflemoccmaaGreat
namespace Go.Proofs.YtcmbfflemoccmaaGreat
open Go.RowKit

end Go.Proofs.YtcmbfflemoccmaaGreat
namespace Go.Proofs.YtcmbfflemoccmaaGreat
open Go.RowKit

theorem held_rank {v a b : Int} (hv : nanB v = false) (ha : nanB a = false) (hb : nanB b = false) : nanB (heldB v a b) = false ∧ rankI (heldB v a b) = max (min (rankI a) (rankI b)) (min (max (rankI a) (rankI b)) (rankI v)) := by
  unfold heldB
  rw [ltB_iff hb ha, ltB_iff hv hb, ltB_iff ha hv, ltB_iff ha hb, ltB_iff hv ha, ltB_iff hb hv]
  simp only [decide_eq_true_eq]
  (repeat' split) <;> exact ⟨by assumption, by omega⟩
end Go.Proofs.YtcmbfflemoccmaaGreat
namespace Go.Proofs.YtcmbfflemoccmaaGreat
open Go.RowKit

noncomputable def lnW (y : Nat) : Nat := if y < 18446744073709551616 then cn (lnF y) else 0
noncomputable def exW (y : Nat) : Nat := if y < 18446744073709551616 then cn (expF y) else 0
theorem lnW_lt (y : Nat) : lnW y < 18446744073709551616 := by
  unfold lnW
  split
  · rename_i h; exact (lnF_says h).lt
  · decide
theorem exW_lt (y : Nat) : exW y < 18446744073709551616 := by
  unfold exW
  split
  · rename_i h
    cases hn : nanB (y : Int) with
    | true => rw [(expF_says h).nan hn, cn_none]; omega
    | false =>
      obtain ⟨z, e, hz⟩ := (expF_says h).num hn
      rw [e, cn_some]; omega
  · decide
theorem ln_numW {y : Nat} (h : NumW y) (hp : ltB 0 (y : Nat) = true) : NumW (lnW y) := by
  obtain ⟨h1, h2⟩ := ltB_pos h.lt hp
  have hs := lnF_says h.lt
  obtain ⟨z, e, hz⟩ := hs.fin h.nb h2 h1
  have hl := hs.lt
  unfold lnW
  rw [if_pos h.lt]
  rw [e, cn_some] at hl ⊢
  exact ⟨hl, hz⟩
theorem log_held {xs : List Int} {ys : List Nat} {x : Int} {k D : Nat} {i : Int} (h : OkT 4 xs ys) (hf : ∀ i < ys.length, U64 (ys.getD i 0 : Nat)) (hI : Inside xs x k D i) :
    nanB (logV lnW exW ys k D i : Nat) = false ∧ logV lnW exW ys k D i < 18446744073709551616 ∧ min (rankI (ys.getD k 0 : Nat)) (rankI (ys.getD (k + 1) 0 : Nat)) ≤ rankI (logV lnW exW ys k D i : Nat) ∧ rankI (logV lnW exW ys k D i : Nat) ≤ max (rankI (ys.getD k 0 : Nat)) (rankI (ys.getD (k + 1) 0 : Nat)) := by
  have hl := hI.lt
  have hD := inside_D h hI
  have a := hI.lo
  have b := hI.hi'
  have w0 := node_num h hf (show k < xs.length by omega)
  have w1 := node_num h hf hl
  have p0 := (node_fine (h.node k (by omega))).2.2.2.2 rfl
  have p1 := (node_fine (h.node (k + 1) hl)).2.2.2.2 rfl
  have l0 := ln_numW w0 p0
  have l1 := ln_numW w1 p1
  unfold logV
  rw [lin_plain (K := 1074) rfl l0 l1 (by omega) (by omega) hD.2]
  obtain ⟨g1, g2, _⟩ := overG_rank (linN (D : Int) i (uI 1074 (lnW (ys.getD k 0))) (uI 1074 (lnW (ys.getD (k + 1) 0)))) D
  generalize overG (linN (D : Int) i (uI 1074 (lnW (ys.getD k 0))) (uI 1074 (lnW (ys.getD (k + 1) 0)))) D = o at *
  have o64 : o < 18446744073709551616 := by have := g1.2; omega
  obtain ⟨e, he, hle⟩ := (expF_says o64).num g2
  have ev : exW o = e := by unfold exW; rw [if_pos o64, he]; rfl
  rw [ev]
  have e64 : e < 18446744073709551616 := by omega
  have en := (rk_pos hle).2.2
  obtain ⟨n1, r1⟩ := held_rank (v := (e : Nat)) en w0.nn.nan w1.nn.nan
  rw [← heldN_cast e64 w0.lt w1.lt] at n1 r1
  exact ⟨n1, heldN_lt e64 w0.lt w1.lt, by rw [r1]; omega, by rw [r1]; omega⟩
theorem ref10At_logW (x : Int) (px py : Option Addr) (bx ox cx b2 oy cy n k D : Nat) (i : Int) (xs : List Int) (ys : List Nat) (w : World) (h : OkT 4 xs ys) (hf : ∀ i < ys.length, U64 (ys.getD i 0 : Nat)) (hn : xs.length = n) (hfo : FindO 4 xs ys x (k : Int) 0) (hI : Inside xs x k D i) (hs : TSrc w px py bx ox b2 oy xs ys) :
    Calls Tryz.prog 40 #[.agg #[.int .i64 4, .slice px n cx, .slice py n cy], .int .i64 x] w fun e w' => e = .returned (.tuple #[.int .u64 (logV lnW exW ys k D i : Int), .int .i64 0]) ∧ Below w.heap.size w w' := by
  have hl := hI.lt
  have w0 := node_num h hf (show k < xs.length by omega)
  have w1 := node_num h hf hl
  have hD := inside_D h hI
  have a := hI.lo
  have b := hI.hi'
  have p0 := (node_fine (h.node k (by omega))).2.2.2.2 rfl
  have p1 := (node_fine (h.node (k + 1) hl)).2.2.2.2 rfl
  have l0 := ln_numW w0 p0
  have l1 := ln_numW w1 p1
  have g1 := (overG_rank (linN (D : Int) i (uI 1074 (lnW (ys.getD k 0))) (uI 1074 (lnW (ys.getD (k + 1) 0)))) D).1
  rw [← lin_plain (K := 1074) rfl l0 l1 (by omega) (by omega) hD.2] at g1
  refine ref10At_log lnW exW x px py bx ox cx b2 oy cy n k D i xs ys w h hn hfo hI hs lnW_lt exW_lt (fun j hj wx => ?_) (fun wx => ?_)
  · have wj : ys.getD j 0 < 18446744073709551616 := by
      rcases hj with rfl | rfl
      · exact w0.lt
      · exact w1.lt
    have := (lnF_says wj).doc wx
    unfold lnW
    rw [if_pos wj]; exact this
  · have o64 : overSt (wAt [(D : Int) - i, i] [lnW (ys.getD k 0), lnW (ys.getD (k + 1) 0)] 2) D < 18446744073709551616 := by have := g1.2; omega
    have := (expF_says o64).doc wx
    have e : exW (overSt (wAt [(D : Int) - i, i] [lnW (ys.getD k 0), lnW (ys.getD (k + 1) 0)] 2) D) = cn (expF (overSt (wAt [(D : Int) - i, i] [lnW (ys.getD k 0), lnW (ys.getD (k + 1) 0)] 2) D)) := by unfold exW; rw [if_pos o64]
    rw [e]; exact this
end Go.Proofs.YtcmbfflemoccmaaGreat
