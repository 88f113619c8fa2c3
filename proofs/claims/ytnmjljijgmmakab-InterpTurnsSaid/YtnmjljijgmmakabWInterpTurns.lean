/- The walk of InterpTurns. -/
import Derived.Test.YtnmjljijgmmakabHbc
import Derived.Test.YtnmjljijgmmakabITurn
import Derived.Test.YtnmjljijgmmakabFTab
namespace Go.Proofs.Ytnmjljijgmmakab
open Go.RowKit

theorem run_negT (w : World) (x : Nat) : (Op.unary .neg (.float .f64 x)).run Try.prog w = .ok (.float .f64 (Op.negFloat .f64 x)) w := rfl
theorem at_findT {kind x E : Int} {V : Nat} {xs : List Int} {ys : List Nat} (h : AtO kind xs ys x V E) : ∃ k, FindO kind xs ys x k E := by
  cases h with
  | err k E h hE => exact ⟨k, h⟩
  | node k ok h hk he => exact ⟨_, h⟩
  | piece k D i ok h hk he hI => exact ⟨_, h⟩

set_option maxRecDepth 20000 in
set_option maxHeartbeats 3200000 in
theorem interpTurns_out (kind x E : Int) (px py : Option Addr) (lx cx ly cy : Nat) (w : World) (hm : lx ≤ 9223372036854775807) (hq : (kind ≠ 2 ∧ kind ≠ 3) ∨ 40 < lx ∨ E ≠ 0)
    (HC : Hid (∀ wx, Below w.heap.size w wx → Calls Try.prog 4 #[.agg #[.int .i64 kind, .slice px lx cx, .slice py ly cy]] wx fun e w' => e = .returned (.int .i64 E) ∧ Below wx.heap.size wx w'))
    (HW : Hid (∀ wx, Calls Try.prog 5 #[] wx fun e w' => e = .returned (.bool true) ∧ Below wx.heap.size wx w')) :
    Calls Try.prog 3 #[.agg #[.int .i64 kind, .slice px lx cx, .slice py ly cy], .int .i64 x] w fun e w' => e = .returned (.bool true) ∧ Below w.heap.size w w' := by
  have HB0 := hideS (abox_at w kind (.slice px lx cx) (.slice py ly cy))
  by_cases hk : kind ≠ 2 ∧ kind ≠ 3
  · have k2 : (kind != 2) = true := bne_iff_ne.2 hk.1
    have k3 : (kind != 3) = true := bne_iff_ne.2 hk.2
    clear hq hk HC
    go_enter Try.func3, Try.ntmps3
    go_wp2_with fail
    refine (HW.out _).mono ?_
    rintro e w3 ⟨rfl, hb3⟩
    have HL := hideS (HB0.out.step hb3).bl
    clear hb3
    go_wp2_with fail
    go_ret
    exact ⟨rfl, HL.out⟩
  · have hk' : kind = 2 ∨ kind = 3 := by omega
    by_cases hl : 40 < lx
    · have d1 : decide ((40 : Int) < (lx : Int)) = true := decide_eq_true (by omega)
      clear hq hk HC hl
      rcases hk' with rfl | rfl
      all_goals
        go_enter Try.func3, Try.ntmps3
        go_wp2_with fail
        refine (HW.out _).mono ?_
        rintro e w3 ⟨rfl, hb3⟩
        have HL := hideS (HB0.out.step hb3).bl
        clear hb3
        go_wp2_with fail
        go_ret
        exact ⟨rfl, HL.out⟩
    · have d1 : decide ((40 : Int) < (lx : Int)) = false := decide_eq_false (by omega)
      have hE' : (E != 0) = true := bne_iff_ne.2 (by rcases hq with h | h | h; exact absurd h hk; exact absurd h hl; exact h)
      clear hq hk hl
      rcases hk' with rfl | rfl
      all_goals
        go_enter Try.func3, Try.ntmps3
        go_wp2_with fail
        refine (HC.out _ HB0.out.bl).mono ?_
        rintro e w1 ⟨rfl, hb1⟩
        have HB1 := hideS (HB0.out.step hb1)
        clear hb1
        go_wp2_with fail
        refine (HW.out _).mono ?_
        rintro e w3 ⟨rfl, hb3⟩
        have HL := hideS (HB1.out.step hb3).bl
        clear hb3
        go_wp2_with fail
        go_ret
        exact ⟨rfl, HL.out⟩

set_option maxRecDepth 40000 in
set_option maxHeartbeats 12800000 in
theorem interpTurns_go (kind x E : Int) (V V1 V2 R n K : Nat) (b2 oy cx cy : Nat) (px : Option Addr) (ys : List Nat) (mx : Nat → Nat) (c1 c2 c3 : Nat → Bool) (w : World) (hk : kind = 2 ∨ kind = 3) (hn : n ≤ 40) (hK : K ≤ n)
    (hT : ∀ k, k < n → SzT (ys.getD k 0) (mx k) (c1 k) (c2 k) (c3 k)) (fine : ∀ k < K, (c1 k && (c2 k || c3 k)) = false) (bad : K < n → (c1 K && (c2 K || c3 K)) = true)
    (h1 : Op.negFloat .f64 V1 = flipN V1) (h2 : E = 0 → (FloatKind.f64.format.order V (flipN V1) != some .eq) = false) (h3 : K = n → E = 0 → floatBits .mul .f64 4611686018427387904 V = some R ∧ (FloatKind.f64.format.order V2 R == some .eq) = true)
    (HC : Hid (∀ wx, Below w.heap.size w wx → Calls Try.prog 4 #[.agg #[.int .i64 kind, .slice px n cx, .slice (some ⟨b2, oy, none⟩) n cy]] wx fun e w' => e = .returned (.int .i64 0) ∧ Below wx.heap.size wx w'))
    (HX : Hid (∀ wx, Below w.heap.size w wx → ∀ k, k < n → wx.cell? ⟨b2, oy + k, none⟩ = some (.float .f64 (ys.getD k 0))))
    (HA : Hid (∀ wx, Below w.heap.size w wx → Calls Try.prog 6 #[.agg #[.int .i64 kind, .slice px n cx, .slice (some ⟨b2, oy, none⟩) n cy], .int .i64 x] wx fun e w' => e = .returned (.tuple #[.float .f64 V, .int .i64 E]) ∧ Below wx.heap.size wx w'))
    (HT1 : Hid (∀ wx, Below w.heap.size w wx → Calls Try.prog 7 #[.agg #[.int .i64 kind, .slice px n cx, .slice (some ⟨b2, oy, none⟩) n cy], .float .f64 13830554455654793216] wx fun e w' => ∃ v, e = .returned v ∧ Below wx.heap.size wx w' ∧ Hid (Calls Try.prog 6 #[v, .int .i64 x] w' fun e w'' => e = .returned (.tuple #[.float .f64 V1, .int .i64 E]) ∧ Below w'.heap.size w' w'')))
    (HT2 : Hid (K = n → ∀ wx, Below w.heap.size w wx → Calls Try.prog 7 #[.agg #[.int .i64 kind, .slice px n cx, .slice (some ⟨b2, oy, none⟩) n cy], .float .f64 4611686018427387904] wx fun e w' => ∃ v, e = .returned v ∧ Below wx.heap.size wx w' ∧ Hid (Calls Try.prog 6 #[v, .int .i64 x] w' fun e w'' => e = .returned (.tuple #[.float .f64 V2, .int .i64 E]) ∧ Below w'.heap.size w' w'')))
    (HW : Hid (∀ wx, Calls Try.prog 5 #[] wx fun e w' => e = .returned (.bool true) ∧ Below wx.heap.size wx w')) :
    Calls Try.prog 3 #[.agg #[.int .i64 kind, .slice px n cx, .slice (some ⟨b2, oy, none⟩) n cy], .int .i64 x] w fun e w' => e = .returned (.bool true) ∧ Below w.heap.size w w' := by
  have HB0 := hideS (abox_at w kind (.slice px n cx) (.slice (some ⟨b2, oy, none⟩) n cy))
  have d1 : decide ((40 : Int) < (n : Int)) = false := decide_eq_false (by omega)
  have z1 : (E != E) = false := by simp
  have z2 : (E == E) = true := by simp
  have hng := run_negT
  have HTt := hideS hT
  have HFi := hideS (And.intro fine bad)
  have H2 := hideS h2
  have H3 := hideS h3
  clear hT fine bad h2 h3
  have q2 : ((kind != 2) && (kind != 3)) = false := by rcases hk with rfl | rfl <;> rfl
  have key : Hid (∀ wr, TBox w kind (.slice px n cx) (.slice (some ⟨b2, oy, none⟩) n cy) wr → True) := fun _ _ => trivial
  clear key q2
  rcases hk with rfl | rfl
  · go_enter Try.func3, Try.ntmps3
    go_wp2_with fail
    refine (HC.out _ HB0.out.bl).mono ?_
    rintro e w1 ⟨rfl, hb1⟩
    have HB1 := hideS (HB0.out.step hb1)
    clear hb1 d1
    have t0 := HB1.out.t0
    have t1 := HB1.out.t1
    have t2 := HB1.out.t2
    go_wp2_with fail
    clear t0 t1 t2
    refine (HA.out _ HB1.out.bl).mono ?_
    rintro e w2 ⟨rfl, hb2⟩
    have HB2 := hideS (HB1.out.step hb2)
    clear hb2 HB1
    have t0 := HB2.out.t0
    have t1 := HB2.out.t1
    have t2 := HB2.out.t2
    go_wp2_with fail
    clear t0 t1 t2
    refine (HT1.out _ HB2.out.bl).mono ?_
    rintro e w3 ⟨v, rfl, hb3, HV⟩
    have HB3 := hideS (HB2.out.step hb3)
    clear hb3 HB2
    go_wp2_with fail
    refine HV.out.mono ?_
    rintro e w4 ⟨rfl, hb4⟩
    have HB4 := hideS (HB3.out.step hb4)
    clear hb4 HB3 HV
    by_cases hE : E = 0
    · subst hE
      have n2 := H2.out rfl
      clear H2 HC HA HT1 HB0
      go_wp2_with fail
      go_loopw [9, 10] (fun i _ wr => ∃ k : Nat, k ≤ K ∧ i = .int .i64 k ∧ Hid (TBox w 2 (.slice px n cx) (.slice (some ⟨b2, oy, none⟩) n cy) wr)) (fun i _ _ => n - (intOf i).toNat)
      case atStart => exact ⟨0, Nat.zero_le _, rfl, HB4⟩
      case round =>
        clear HB4
        obtain ⟨k, hk, rfl, HB⟩ := hrel
        have t0 := HB.out.t0
        have t1 := HB.out.t1
        have t2 := HB.out.t2
        by_cases hlt : k < n
        · have g3 : (0 : Int) ≤ (k : Int) := by omega
          have g4 : (k : Int) < (n : Int) := by omega
          have c0 := HX.out _ HB.out.bl k hlt
          obtain ⟨r1, r2, o1, o2, o3⟩ := HTt.out k hlt
          have HBd : Hid (∀ j, TBox w 2 (.slice px n cx) (.slice (some ⟨b2, oy, none⟩) n cy) (wr.drewN j)) := fun j => HB.out.drewN j
          have hb : (c1 k && (c2 k || c3 k)) = decide (K ≤ k) := by
            by_cases hkK : k < K
            · rw [HFi.out.1 k hkK, decide_eq_false (by omega)]
            · obtain rfl : k = K := by omega
              rw [HFi.out.2 hlt, decide_eq_true (Nat.le_refl k)]
          have HFl := hideS (show ys.getD k 0 < 18446744073709551616 ∨ True from .inr trivial)
          clear HFl
          generalize flipN (ys.getD k 0) = fy at *
          generalize ys.getD k 0 = y at *
          generalize mx k = m at *
          generalize c1 k = a1 at *
          generalize c2 k = a2 at *
          generalize c3 k = a3 at *
          go_wp2_with fail
          go_quiet (fail)
          cases a1 with
          | false =>
            have hkK := of_decide_eq_false hb.symm
            clear hb
            go_wp2_with fail
            go_roundw
            case rel => exact ⟨k + 1, by omega, by simp, HBd.out _⟩
            case measure => simp [intOf]; omega
          | true =>
            cases a2 with
            | true =>
              clear hb
              go_wp2_with fail
              refine (HW.out _).mono ?_
              rintro e w9 ⟨rfl, hb9⟩
              have HL := hideS ((HBd.out _).step hb9).bl
              clear hb9
              go_wp2_with fail
              go_ret
              exact ⟨rfl, HL.out⟩
            | false =>
              cases a3 with
              | true =>
                clear hb
                go_wp2_with fail
                refine (HW.out _).mono ?_
                rintro e w9 ⟨rfl, hb9⟩
                have HL := hideS ((HBd.out _).step hb9).bl
                clear hb9
                go_wp2_with fail
                go_ret
                exact ⟨rfl, HL.out⟩
              | false =>
                have hkK := of_decide_eq_false hb.symm
                clear hb
                go_wp2_with fail
                go_roundw
                case rel => exact ⟨k + 1, by omega, by simp, HBd.out _⟩
                case measure => simp [intOf]; omega
        · obtain rfl : k = n := by omega
          obtain rfl : K = k := by omega
          have HT2' := hideS (HT2.out rfl)
          obtain ⟨m1, m2⟩ := H3.out rfl (by first | rfl | trivial)
          have r9 := fun w => run_float_arith (P := Try.prog) w .mul 29 .f64 _ _ _ m1
          clear m1
          clear HX HTt HFi H3 HT2
          go_wp2_with fail
          clear t0 t1 t2
          refine (HT2'.out _ HB.out.bl).mono ?_
          rintro e w5 ⟨v, rfl, hb5, HV⟩
          have HB5 := hideS (HB.out.step hb5)
          clear hb5 HB
          go_wp2_with fail
          refine HV.out.mono ?_
          rintro e w6 ⟨rfl, hb6⟩
          have HB6 := hideS (HB5.out.step hb6)
          clear hb6 HB5 HV
          go_wp2_with fail
          refine (HW.out _).mono ?_
          rintro e w7 ⟨rfl, hb7⟩
          have HL := hideS (HB6.out.step hb7).bl
          clear hb7
          go_wp2_with fail
          go_ret
          exact ⟨rfl, HL.out⟩
    · have n3 : (E == 0) = false := beq_eq_false_iff_ne.2 hE
      have n4 : (E != 0) = true := bne_iff_ne.2 hE
      clear H2 HC HA HT1 HB0 hE
      go_wp2_with fail
      go_loopw [9, 10] (fun i _ wr => ∃ k : Nat, k ≤ K ∧ i = .int .i64 k ∧ Hid (TBox w 2 (.slice px n cx) (.slice (some ⟨b2, oy, none⟩) n cy) wr)) (fun i _ _ => n - (intOf i).toNat)
      case atStart => exact ⟨0, Nat.zero_le _, rfl, HB4⟩
      case round =>
        clear HB4
        obtain ⟨k, hk, rfl, HB⟩ := hrel
        have t0 := HB.out.t0
        have t1 := HB.out.t1
        have t2 := HB.out.t2
        by_cases hlt : k < n
        · have g3 : (0 : Int) ≤ (k : Int) := by omega
          have g4 : (k : Int) < (n : Int) := by omega
          have c0 := HX.out _ HB.out.bl k hlt
          obtain ⟨r1, r2, o1, o2, o3⟩ := HTt.out k hlt
          have HBd : Hid (∀ j, TBox w 2 (.slice px n cx) (.slice (some ⟨b2, oy, none⟩) n cy) (wr.drewN j)) := fun j => HB.out.drewN j
          have hb : (c1 k && (c2 k || c3 k)) = decide (K ≤ k) := by
            by_cases hkK : k < K
            · rw [HFi.out.1 k hkK, decide_eq_false (by omega)]
            · obtain rfl : k = K := by omega
              rw [HFi.out.2 hlt, decide_eq_true (Nat.le_refl k)]
          have HFl := hideS (show ys.getD k 0 < 18446744073709551616 ∨ True from .inr trivial)
          clear HFl
          generalize flipN (ys.getD k 0) = fy at *
          generalize ys.getD k 0 = y at *
          generalize mx k = m at *
          generalize c1 k = a1 at *
          generalize c2 k = a2 at *
          generalize c3 k = a3 at *
          go_wp2_with fail
          go_quiet (fail)
          cases a1 with
          | false =>
            have hkK := of_decide_eq_false hb.symm
            clear hb
            go_wp2_with fail
            go_roundw
            case rel => exact ⟨k + 1, by omega, by simp, HBd.out _⟩
            case measure => simp [intOf]; omega
          | true =>
            cases a2 with
            | true =>
              clear hb
              go_wp2_with fail
              refine (HW.out _).mono ?_
              rintro e w9 ⟨rfl, hb9⟩
              have HL := hideS ((HBd.out _).step hb9).bl
              clear hb9
              go_wp2_with fail
              go_ret
              exact ⟨rfl, HL.out⟩
            | false =>
              cases a3 with
              | true =>
                clear hb
                go_wp2_with fail
                refine (HW.out _).mono ?_
                rintro e w9 ⟨rfl, hb9⟩
                have HL := hideS ((HBd.out _).step hb9).bl
                clear hb9
                go_wp2_with fail
                go_ret
                exact ⟨rfl, HL.out⟩
              | false =>
                have hkK := of_decide_eq_false hb.symm
                clear hb
                go_wp2_with fail
                go_roundw
                case rel => exact ⟨k + 1, by omega, by simp, HBd.out _⟩
                case measure => simp [intOf]; omega
        · obtain rfl : k = n := by omega
          obtain rfl : K = k := by omega
          have HT2' := hideS (HT2.out rfl)
          clear HX HTt HFi H3 HT2
          go_wp2_with fail
          clear t0 t1 t2
          refine (HT2'.out _ HB.out.bl).mono ?_
          rintro e w5 ⟨v, rfl, hb5, HV⟩
          have HB5 := hideS (HB.out.step hb5)
          clear hb5 HB
          go_wp2_with fail
          refine HV.out.mono ?_
          rintro e w6 ⟨rfl, hb6⟩
          have HB6 := hideS (HB5.out.step hb6)
          clear hb6 HB5 HV
          go_wp2_with fail
          refine (HW.out _).mono ?_
          rintro e w7 ⟨rfl, hb7⟩
          have HL := hideS (HB6.out.step hb7).bl
          clear hb7
          go_wp2_with fail
          go_ret
          exact ⟨rfl, HL.out⟩
  · go_enter Try.func3, Try.ntmps3
    go_wp2_with fail
    refine (HC.out _ HB0.out.bl).mono ?_
    rintro e w1 ⟨rfl, hb1⟩
    have HB1 := hideS (HB0.out.step hb1)
    clear hb1 d1
    have t0 := HB1.out.t0
    have t1 := HB1.out.t1
    have t2 := HB1.out.t2
    go_wp2_with fail
    clear t0 t1 t2
    refine (HA.out _ HB1.out.bl).mono ?_
    rintro e w2 ⟨rfl, hb2⟩
    have HB2 := hideS (HB1.out.step hb2)
    clear hb2 HB1
    have t0 := HB2.out.t0
    have t1 := HB2.out.t1
    have t2 := HB2.out.t2
    go_wp2_with fail
    clear t0 t1 t2
    refine (HT1.out _ HB2.out.bl).mono ?_
    rintro e w3 ⟨v, rfl, hb3, HV⟩
    have HB3 := hideS (HB2.out.step hb3)
    clear hb3 HB2
    go_wp2_with fail
    refine HV.out.mono ?_
    rintro e w4 ⟨rfl, hb4⟩
    have HB4 := hideS (HB3.out.step hb4)
    clear hb4 HB3 HV
    by_cases hE : E = 0
    · subst hE
      have n2 := H2.out rfl
      clear H2 HC HA HT1 HB0
      go_wp2_with fail
      go_loopw [9, 10] (fun i _ wr => ∃ k : Nat, k ≤ K ∧ i = .int .i64 k ∧ Hid (TBox w 3 (.slice px n cx) (.slice (some ⟨b2, oy, none⟩) n cy) wr)) (fun i _ _ => n - (intOf i).toNat)
      case atStart => exact ⟨0, Nat.zero_le _, rfl, HB4⟩
      case round =>
        clear HB4
        obtain ⟨k, hk, rfl, HB⟩ := hrel
        have t0 := HB.out.t0
        have t1 := HB.out.t1
        have t2 := HB.out.t2
        by_cases hlt : k < n
        · have g3 : (0 : Int) ≤ (k : Int) := by omega
          have g4 : (k : Int) < (n : Int) := by omega
          have c0 := HX.out _ HB.out.bl k hlt
          obtain ⟨r1, r2, o1, o2, o3⟩ := HTt.out k hlt
          have HBd : Hid (∀ j, TBox w 3 (.slice px n cx) (.slice (some ⟨b2, oy, none⟩) n cy) (wr.drewN j)) := fun j => HB.out.drewN j
          have hb : (c1 k && (c2 k || c3 k)) = decide (K ≤ k) := by
            by_cases hkK : k < K
            · rw [HFi.out.1 k hkK, decide_eq_false (by omega)]
            · obtain rfl : k = K := by omega
              rw [HFi.out.2 hlt, decide_eq_true (Nat.le_refl k)]
          have HFl := hideS (show ys.getD k 0 < 18446744073709551616 ∨ True from .inr trivial)
          clear HFl
          generalize flipN (ys.getD k 0) = fy at *
          generalize ys.getD k 0 = y at *
          generalize mx k = m at *
          generalize c1 k = a1 at *
          generalize c2 k = a2 at *
          generalize c3 k = a3 at *
          go_wp2_with fail
          go_quiet (fail)
          cases a1 with
          | false =>
            have hkK := of_decide_eq_false hb.symm
            clear hb
            go_wp2_with fail
            go_roundw
            case rel => exact ⟨k + 1, by omega, by simp, HBd.out _⟩
            case measure => simp [intOf]; omega
          | true =>
            cases a2 with
            | true =>
              clear hb
              go_wp2_with fail
              refine (HW.out _).mono ?_
              rintro e w9 ⟨rfl, hb9⟩
              have HL := hideS ((HBd.out _).step hb9).bl
              clear hb9
              go_wp2_with fail
              go_ret
              exact ⟨rfl, HL.out⟩
            | false =>
              cases a3 with
              | true =>
                clear hb
                go_wp2_with fail
                refine (HW.out _).mono ?_
                rintro e w9 ⟨rfl, hb9⟩
                have HL := hideS ((HBd.out _).step hb9).bl
                clear hb9
                go_wp2_with fail
                go_ret
                exact ⟨rfl, HL.out⟩
              | false =>
                have hkK := of_decide_eq_false hb.symm
                clear hb
                go_wp2_with fail
                go_roundw
                case rel => exact ⟨k + 1, by omega, by simp, HBd.out _⟩
                case measure => simp [intOf]; omega
        · obtain rfl : k = n := by omega
          obtain rfl : K = k := by omega
          have HT2' := hideS (HT2.out rfl)
          obtain ⟨m1, m2⟩ := H3.out rfl (by first | rfl | trivial)
          have r9 := fun w => run_float_arith (P := Try.prog) w .mul 29 .f64 _ _ _ m1
          clear m1
          clear HX HTt HFi H3 HT2
          go_wp2_with fail
          clear t0 t1 t2
          refine (HT2'.out _ HB.out.bl).mono ?_
          rintro e w5 ⟨v, rfl, hb5, HV⟩
          have HB5 := hideS (HB.out.step hb5)
          clear hb5 HB
          go_wp2_with fail
          refine HV.out.mono ?_
          rintro e w6 ⟨rfl, hb6⟩
          have HB6 := hideS (HB5.out.step hb6)
          clear hb6 HB5 HV
          go_wp2_with fail
          refine (HW.out _).mono ?_
          rintro e w7 ⟨rfl, hb7⟩
          have HL := hideS (HB6.out.step hb7).bl
          clear hb7
          go_wp2_with fail
          go_ret
          exact ⟨rfl, HL.out⟩
    · have n3 : (E == 0) = false := beq_eq_false_iff_ne.2 hE
      have n4 : (E != 0) = true := bne_iff_ne.2 hE
      clear H2 HC HA HT1 HB0 hE
      go_wp2_with fail
      go_loopw [9, 10] (fun i _ wr => ∃ k : Nat, k ≤ K ∧ i = .int .i64 k ∧ Hid (TBox w 3 (.slice px n cx) (.slice (some ⟨b2, oy, none⟩) n cy) wr)) (fun i _ _ => n - (intOf i).toNat)
      case atStart => exact ⟨0, Nat.zero_le _, rfl, HB4⟩
      case round =>
        clear HB4
        obtain ⟨k, hk, rfl, HB⟩ := hrel
        have t0 := HB.out.t0
        have t1 := HB.out.t1
        have t2 := HB.out.t2
        by_cases hlt : k < n
        · have g3 : (0 : Int) ≤ (k : Int) := by omega
          have g4 : (k : Int) < (n : Int) := by omega
          have c0 := HX.out _ HB.out.bl k hlt
          obtain ⟨r1, r2, o1, o2, o3⟩ := HTt.out k hlt
          have HBd : Hid (∀ j, TBox w 3 (.slice px n cx) (.slice (some ⟨b2, oy, none⟩) n cy) (wr.drewN j)) := fun j => HB.out.drewN j
          have hb : (c1 k && (c2 k || c3 k)) = decide (K ≤ k) := by
            by_cases hkK : k < K
            · rw [HFi.out.1 k hkK, decide_eq_false (by omega)]
            · obtain rfl : k = K := by omega
              rw [HFi.out.2 hlt, decide_eq_true (Nat.le_refl k)]
          have HFl := hideS (show ys.getD k 0 < 18446744073709551616 ∨ True from .inr trivial)
          clear HFl
          generalize flipN (ys.getD k 0) = fy at *
          generalize ys.getD k 0 = y at *
          generalize mx k = m at *
          generalize c1 k = a1 at *
          generalize c2 k = a2 at *
          generalize c3 k = a3 at *
          go_wp2_with fail
          go_quiet (fail)
          cases a1 with
          | false =>
            have hkK := of_decide_eq_false hb.symm
            clear hb
            go_wp2_with fail
            go_roundw
            case rel => exact ⟨k + 1, by omega, by simp, HBd.out _⟩
            case measure => simp [intOf]; omega
          | true =>
            cases a2 with
            | true =>
              clear hb
              go_wp2_with fail
              refine (HW.out _).mono ?_
              rintro e w9 ⟨rfl, hb9⟩
              have HL := hideS ((HBd.out _).step hb9).bl
              clear hb9
              go_wp2_with fail
              go_ret
              exact ⟨rfl, HL.out⟩
            | false =>
              cases a3 with
              | true =>
                clear hb
                go_wp2_with fail
                refine (HW.out _).mono ?_
                rintro e w9 ⟨rfl, hb9⟩
                have HL := hideS ((HBd.out _).step hb9).bl
                clear hb9
                go_wp2_with fail
                go_ret
                exact ⟨rfl, HL.out⟩
              | false =>
                have hkK := of_decide_eq_false hb.symm
                clear hb
                go_wp2_with fail
                go_roundw
                case rel => exact ⟨k + 1, by omega, by simp, HBd.out _⟩
                case measure => simp [intOf]; omega
        · obtain rfl : k = n := by omega
          obtain rfl : K = k := by omega
          have HT2' := hideS (HT2.out rfl)
          clear HX HTt HFi H3 HT2
          go_wp2_with fail
          clear t0 t1 t2
          refine (HT2'.out _ HB.out.bl).mono ?_
          rintro e w5 ⟨v, rfl, hb5, HV⟩
          have HB5 := hideS (HB.out.step hb5)
          clear hb5 HB
          go_wp2_with fail
          refine HV.out.mono ?_
          rintro e w6 ⟨rfl, hb6⟩
          have HB6 := hideS (HB5.out.step hb6)
          clear hb6 HB5 HV
          go_wp2_with fail
          refine (HW.out _).mono ?_
          rintro e w7 ⟨rfl, hb7⟩
          have HL := hideS (HB6.out.step hb7).bl
          clear hb7
          go_wp2_with fail
          go_ret
          exact ⟨rfl, HL.out⟩

theorem interpTurns_walk (kind x : Int) (px py : Option Addr) (bx ox cx b2 oy cy : Nat) (xs : List Int) (ys : List Nat) (w : World) (hs : TFl w px py bx ox b2 oy xs ys) (_hxI : ∀ i < xs.length, TI64 (xs.getD i 0)) (hx : xs.length ≤ 17592186043904) (_hy : ys.length ≤ 17592186043904) (_hlx : xs.length ≤ cx) (_hly : ys.length ≤ cy) (_hxx : TI64 x) :
    Calls Try.prog 3 #[.agg #[.int .i64 kind, .slice px xs.length cx, .slice py ys.length cy], .int .i64 x] w fun e w' => e = .returned (.bool true) ∧ Below w.heap.size w w' := by
  obtain ⟨E, hT⟩ := tabR_ex kind xs ys
  by_cases hq : (kind ≠ 2 ∧ kind ≠ 3) ∨ 40 < xs.length ∨ E ≠ 0
  · exact interpTurns_out kind x E px py _ cx _ cy w (by omega) hq (fun wx hb => intCheck_any kind E px py bx ox cx b2 oy cy xs ys wx hT (hs.below hb)) (fun wx => awake10 wx)
  · have hk : kind = 2 ∨ kind = 3 := by omega
    have h4 : kind ≠ 4 := by omega
    obtain rfl : E = 0 := by omega
    have ok := tabR_ok hT
    have hyl := ok.len
    have hlo := ok.lo
    have hN : ∀ i < ys.length, NumW (ys.getD i 0) := fun i hi => node_num ok hs.u (by rw [← hyl]; exact hi)
    -- the table turned in sign
    obtain ⟨zs, z1, z2, z3⟩ := times_list (X := 13830554455654793216) (P := fun y z => NumW z ∧ Opp y z) (fun i hi => turn_one (hN i hi))
    have okz := ok_other ok h4 z1 (fun j hj => (z3 j hj).1)
    -- the sizes
    have szs : ∀ k, ∃ m c1 c2 c3, k < xs.length → SzT (ys.getD k 0) m c1 c2 c3 ∧ ((c1 && (c2 || c3)) = false → RgB (ys.getD k 0)) := fun k => by
      by_cases hk : k < xs.length
      · obtain ⟨m, c1, c2, c3, a, b⟩ := szT_of (hN k (by rw [hyl]; exact hk))
        exact ⟨m, c1, c2, c3, fun _ => ⟨a, b⟩⟩
      · exact ⟨0, false, false, false, fun c => absurd c hk⟩
    obtain ⟨mx, h5⟩ := Classical.axiomOfChoice szs
    obtain ⟨c1, h6⟩ := Classical.axiomOfChoice h5
    obtain ⟨c2, h7⟩ := Classical.axiomOfChoice h6
    obtain ⟨c3, h8⟩ := Classical.axiomOfChoice h7
    obtain ⟨K, hK, fine, bad⟩ := least_or (p := fun k => c1 k && (c2 k || c3 k)) xs.length
    obtain ⟨V, E, hA⟩ := atO_ex kind xs ys x
    obtain ⟨V1, E1, hA1⟩ := atO_ex kind xs zs x
    -- one error
    have sameE : ∀ {vs : List Nat} {W : Nat} {F : Int}, OkT kind xs vs → AtO kind xs vs x W F → F = E := fun {vs W F} okv hv => by
      have find : ∀ {us : List Nat} {U : Nat} {H : Int}, OkT kind xs us → AtO kind xs us x U H → (H = 0 ∧ xs.getD 0 0 ≤ x ∧ x ≤ xs.getD (xs.length - 1) 0) ∨ (H = 51 ∧ (x < xs.getD 0 0 ∨ xs.getD (xs.length - 1) 0 < x)) := fun {us U H} oku hu => by
        obtain ⟨k, hf⟩ := at_findT hu
        cases hf with
        | bad _ hb hE =>
          exfalso
          cases hb with
          | ok _ => exact hE rfl
          | kind h => have := oku.k1; have := oku.k4; omega
          | len a b h => have := oku.lo; have := oku.hi; have := oku.len; omega
          | node a b lo hi len K hK bad fine => rw [oku.node K hK] at bad; cases bad
        | out _ hx => exact .inr ⟨rfl, hx⟩
        | at_ _ hlo hhi k hk hj => exact .inl ⟨rfl, hlo, hhi⟩
      rcases find okv hv with ⟨a, b, c⟩ | ⟨a, b⟩ <;> rcases find ok hA with ⟨a', b', c'⟩ | ⟨a', b'⟩ <;> omega
    obtain rfl := sameE okz hA1
    have fz : ∀ i < zs.length, U64 (zs.getD i 0 : Nat) := fun i hi => u64N (z3 i (by omega)).1.lt
    have hV1 : V1 < 18446744073709551616 := by
      by_cases e : E1 = 0
      · subst e; obtain ⟨_, _, _, _, a, _⟩ := atO_held hA1 fz; exact a
      · cases hA1 with
        | err => decide
        | node => exact absurd rfl e
        | piece => exact absurd rfl e
    -- the table doubled
    have dbl : ∃ V2 R, K = xs.length → (∃ us, us.length = ys.length ∧ (∀ j < ys.length, floatBits .mul .f64 4611686018427387904 (ys.getD j 0) = some (us.getD j 0)) ∧ (∀ j < ys.length, us.getD j 0 < 18446744073709551616) ∧ AtO kind xs us x V2 E1) ∧ (E1 = 0 → floatBits .mul .f64 4611686018427387904 V = some R ∧ (FloatKind.f64.format.order V2 R == some .eq) = true) := by
      by_cases hKn : K = xs.length
      · obtain ⟨us, u1, u2, u3⟩ := times_list (X := 4611686018427387904) (P := fun y z => Two y z (pB 123) (pB 1924)) (fun i hi => dbl_two (hN i hi) ((h8 i (by omega)).2 (fine i (by omega))))
        have oku := ok_other ok h4 u1 (fun j hj => ⟨(u3 j hj).r'.lt, (u3 j hj).r'.num⟩)
        obtain ⟨V2, E2, hA2⟩ := atO_ex kind xs us x
        obtain rfl := sameE oku hA2
        have fu : ∀ i < us.length, U64 (us.getD i 0 : Nat) := fun i hi => u64N (u3 i (by omega)).r'.lt
        by_cases e : E2 = 0
        · subst e
          obtain ⟨k, _, _, hk1, rA⟩ := atR_of hA h4
          obtain ⟨j, _, _, hj1, rD⟩ := atR_of hA2 h4
          have hkj : k = j := Nat.le_antisymm (find_le ok hk1 hj1 (Int.le_refl _)) (find_le ok hj1 hk1 (Int.le_refl _))
          subst hkj
          have hd := at_dbl ⟨ok, oku, fun i hi => u3 i (by omega)⟩ hk1.lt rA rD
          obtain ⟨R, r1, r2, r3⟩ := dbl_one hd
          refine ⟨V2, R, fun _ => ⟨⟨us, u1, u2, fun j hj => (u3 j hj).r'.lt, hA2⟩, fun _ => ⟨r1, ?_⟩⟩⟩
          rw [eq_rank (u64N hd.ly) (u64N r2.lt) (NumW.nn ⟨hd.ly, hd.ny⟩).nan r2.nn.nan, r3]
          exact decide_eq_true rfl
        · exact ⟨V2, 0, fun _ => ⟨⟨us, u1, u2, fun j hj => (u3 j hj).r'.lt, hA2⟩, fun c => absurd c e⟩⟩
      · exact ⟨0, 0, fun c => absurd c hKn⟩
    obtain ⟨V2, R, hD⟩ := dbl
    have cC : ∀ wx, Below w.heap.size w wx → _ := fun wx hb => intCheck_any kind 0 px py bx ox cx b2 oy cy xs ys wx hT (hs.below hb)
    have cA : ∀ wx, Below w.heap.size w wx → _ := fun wx hb => intAt_any kind x _ V px py bx ox cx b2 oy cy xs ys wx hA (hs.below hb)
    have cX : ∀ wx, Below w.heap.size w wx → ∀ k, k < xs.length → wx.cell? ⟨b2, oy + k, none⟩ = some (.float .f64 (ys.getD k 0)) := fun wx hb k hk => (hs.below hb).y.cell k (by omega)
    have cT : ∀ (X : Nat) (vs : List Nat) (W : Nat), vs.length = ys.length → (∀ j < ys.length, floatBits .mul .f64 X (ys.getD j 0) = some (vs.getD j 0)) → (∀ j < ys.length, vs.getD j 0 < 18446744073709551616) → AtO kind xs vs x W E1 → ∀ wx, Below w.heap.size w wx → Calls Try.prog 7 #[.agg #[.int .i64 kind, .slice px xs.length cx, .slice py ys.length cy], .float .f64 X] wx fun e w' => ∃ v, e = .returned v ∧ Below wx.heap.size wx w' ∧ Hid (Calls Try.prog 6 #[v, .int .i64 x] w' fun e w'' => e = .returned (.tuple #[.float .f64 W, .int .i64 E1]) ∧ Below w'.heap.size w' w'') := fun X vs W hl hm hlt hat wx hb => by
      refine (turned10_any kind X b2 oy cx cy xs.length ys.length px py ys vs wx (hs.below hb).y hl hm (by omega)).mono fun e w' ⟨v, he, ho, hbl⟩ => ?_
      obtain ⟨p, g, c, rfl, hsr, _⟩ := flown_src ho hl
      refine ⟨_, he, hbl, ?_⟩
      have ht : TFl w' px p bx ox g 0 xs vs := ⟨(hs.below (hb.trans (hbl.mono hb.size))).x, ⟨fun h => hsr.at_ h, fun h => hsr.lt h, fun j hj => hsr.cell j hj⟩, fun i hi => hlt i (by omega)⟩
      have := intAt_any kind x E1 W px p bx ox cx g 0 c xs vs w' hat ht
      rw [hl] at this
      exact this
    have cT1 := cT _ zs V1 z1 z2 (fun j hj => (z3 j hj).1.lt) hA1
    have cT2 : K = xs.length → ∀ wx, Below w.heap.size w wx → Calls Try.prog 7 #[.agg #[.int .i64 kind, .slice px xs.length cx, .slice py ys.length cy], .float .f64 4611686018427387904] wx fun e w' => ∃ v, e = .returned v ∧ Below wx.heap.size wx w' ∧ Hid (Calls Try.prog 6 #[v, .int .i64 x] w' fun e w'' => e = .returned (.tuple #[.float .f64 V2, .int .i64 E1]) ∧ Below w'.heap.size w' w'') := fun hKn => by
      obtain ⟨us, u1, u2, u3, u4⟩ := (hD hKn).1
      exact cT _ us V2 u1 u2 u3 u4
    obtain rfl := hs.y.at_ (by omega)
    rw [hyl] at cC cA cT1 cT2 ⊢
    refine interpTurns_go kind x E1 V V1 V2 R xs.length K b2 oy cx cy px ys mx c1 c2 c3 w hk (by omega) hK (fun k hk => (h8 k hk).1) fine bad (neg_flip hV1) (fun e => ?_) (fun hKn => (hD hKn).2) cC cX cA cT1 cT2 (fun wx => awake10 wx)
    subst e
    obtain ⟨k, _, _, hk1, rA⟩ := atR_of hA h4
    obtain ⟨j, _, _, hj1, rD⟩ := atR_of hA1 h4
    have hkj : k = j := Nat.le_antisymm (find_le ok hk1 hj1 (Int.le_refl _)) (find_le ok hj1 hk1 (Int.le_refl _))
    subst hkj
    have hop : OppL ys zs := ⟨z1, fun i => by
      by_cases hi : i < ys.length
      · exact (z3 i hi).2
      · simp [List.getD, List.getElem?_eq_none (show ys.length ≤ i by omega), List.getElem?_eq_none (show zs.length ≤ i by omega)]; exact opp_zero⟩
    have hr := at_opp ⟨ok, hs.u, hop⟩ hk1.lt rA rD
    obtain ⟨_, _, _, _, v1, v2, _⟩ := atO_held hA hs.u
    obtain ⟨_, _, _, _, w1, w2, _⟩ := atO_held hA1 fz
    obtain ⟨f1, f2, f3⟩ := flip_parts w1
    have hfn : NN (flipN V1) := ⟨f1, by rw [f2]; exact (nn_of w1 w2).le⟩
    have f3' : sB (flipN V1) = !sB V1 := f3
    have hfr : rankI (flipN V1 : Nat) = -rankI (V1 : Nat) := by rw [nn_rank hfn, nn_rank (nn_of w1 w2), f2, f3', sgZ_not]
    rw [bne, eq_rank (u64N v1) (u64N f1) v2 hfn.nan, hfr, hr]
    rw [decide_eq_true (by omega)]; rfl
end Go.Proofs.Ytnmjljijgmmakab
