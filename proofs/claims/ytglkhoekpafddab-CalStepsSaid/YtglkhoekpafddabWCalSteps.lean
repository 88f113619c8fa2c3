/- The walk of CalSteps: steps of open days put together; counting is adding turned round. -/
import Derived.Test.YtglkhoekpafddabQFew
import Derived.Test.YtglkhoekpafddabQLaw
namespace Go.Proofs.Ytglkhoekpafddab
open Go.RowKit

set_option maxHeartbeats 1600000 in
theorem calSteps_skip (W n j k : Int) (p : Option Addr) (N c : Nat) (w : World) (h2 : N ≤ 9223372036854775807)
    (h : 12 < N ∨ (N ≤ 12 ∧ j < 1) ∨ (N ≤ 12 ∧ ¬ j < 1 ∧ 200 < j) ∨ (N ≤ 12 ∧ ¬ j < 1 ∧ ¬ 200 < j ∧ k < 1) ∨ (N ≤ 12 ∧ ¬ j < 1 ∧ ¬ 200 < j ∧ ¬ k < 1 ∧ 200 < k)) :
    Calls Try.prog 4 #[.agg #[.int .i64 W, .slice p N c], .int .i64 n, .int .i64 j, .int .i64 k] w fun e w' => e = .returned (.bool true) ∧ Below w.heap.size w w' := by
  have HFw := hideS (fun wx => few_any W p N c wx h2)
  have h' : (decide (N ≤ 12) = false) ∨ (decide (N ≤ 12) = true ∧ j < 1) ∨ (decide (N ≤ 12) = true ∧ ¬ j < 1 ∧ 200 < j) ∨ (decide (N ≤ 12) = true ∧ ¬ j < 1 ∧ ¬ 200 < j ∧ k < 1) ∨ (decide (N ≤ 12) = true ∧ ¬ j < 1 ∧ ¬ 200 < j ∧ ¬ k < 1 ∧ 200 < k) := by
    rcases h with a | ⟨a, b⟩ | ⟨a, b⟩ | ⟨a, b⟩ | ⟨a, b⟩
    · exact Or.inl (decide_eq_false (by omega))
    · exact Or.inr (Or.inl ⟨decide_eq_true a, b⟩)
    · exact Or.inr (Or.inr (Or.inl ⟨decide_eq_true a, b⟩))
    · exact Or.inr (Or.inr (Or.inr (Or.inl ⟨decide_eq_true a, b⟩)))
    · exact Or.inr (Or.inr (Or.inr (Or.inr ⟨decide_eq_true a, b⟩)))
  clear h
  rcases h' with a | ⟨a, b⟩ | ⟨a, b, b2⟩ | ⟨a, b, b2, b3⟩ | ⟨a, b, b2, b3, b4⟩
  all_goals
    rw [a] at HFw
    clear a
    go_enter Try.func4, Try.ntmps4
    go_wp2_with fail
    refine (HFw.out _).mono ?_
    rintro e w2 ⟨rfl, hb2⟩
    have X2 := hideS (CBoxP.first hb2)
    clear hb2
    go_wp2_with (go_at_call 8; refine (awake6 _).mono ?_; rintro e w3 ⟨rfl, hb3⟩)
    go_ret
    exact ⟨rfl, (X2.out.step hb3).below⟩

set_option maxHeartbeats 1600000 in
theorem calSteps_err (W n j k m X E Z E2 : Int) (p : Option Addr) (N c : Nat) (w : World) (hN : N ≤ 12) (j0 : ¬ j < 1) (j1 : ¬ 200 < j) (k0 : ¬ k < 1) (k1 : ¬ 200 < k) (hm : j + k = m) (hE2 : (E2 != 0) = true) (hE : (E != 0) = true ∨ E = 0)
    (HA : Hid (∀ wx, Below w.heap.size w wx → Calls Try.prog 10 #[.agg #[.int .i64 W, .slice p N c], .int .i64 n, .int .i64 j] wx fun e w' => e = .returned (.tuple #[.int .i64 X, .int .i64 E]) ∧ Below wx.heap.size wx w'))
    (HB : Hid (∀ wx, Below w.heap.size w wx → Calls Try.prog 10 #[.agg #[.int .i64 W, .slice p N c], .int .i64 n, .int .i64 m] wx fun e w' => e = .returned (.tuple #[.int .i64 Z, .int .i64 E2]) ∧ Below wx.heap.size wx w')) :
    Calls Try.prog 4 #[.agg #[.int .i64 W, .slice p N c], .int .i64 n, .int .i64 j, .int .i64 k] w fun e w' => e = .returned (.bool true) ∧ Below w.heap.size w w' := by
  have HFw := hideS (fun wx => few_any W p N c wx (by omega))
  rw [decide_eq_true hN] at HFw
  rcases hE with hE | rfl
  all_goals
    go_enter Try.func4, Try.ntmps4
    go_wp2_with fail
    refine (HFw.out _).mono ?_
    rintro e w1 ⟨rfl, hb1⟩
    have X1 := hideS (CBoxP.first hb1)
    clear hb1
    obtain ⟨c0, c1⟩ := X1.out.cells
    go_wp2_with fail
    refine (HA.out _ X1.out.below).mono ?_
    rintro e w2 ⟨rfl, hb2⟩
    have X2 := hideS (X1.out.step hb2)
    clear hb2 c0 c1
    obtain ⟨c0, c1⟩ := X2.out.cells
    go_wp2_with fail
    refine (HB.out _ X2.out.below).mono ?_
    rintro e w3 ⟨rfl, hb3⟩
    have X3 := hideS (X2.out.step hb3)
    clear hb3 c0 c1
    go_wp2_with (go_at_call 8; refine (awake6 _).mono ?_; rintro e w4 ⟨rfl, hb4⟩)
    go_ret
    exact ⟨rfl, (X3.out.step hb4).below⟩

/-- What the calls of a good case tell. -/
structure StepH (w : World) (W n j k m a b P Q : Int) (p : Option Addr) (N c : Nat) : Prop where
  aj : ∀ wx, Below w.heap.size w wx → Calls Try.prog 10 #[.agg #[.int .i64 W, .slice p N c], .int .i64 n, .int .i64 j] wx fun e w' => e = .returned (.tuple #[.int .i64 a, .int .i64 0]) ∧ Below wx.heap.size wx w'
  am : ∀ wx, Below w.heap.size w wx → Calls Try.prog 10 #[.agg #[.int .i64 W, .slice p N c], .int .i64 n, .int .i64 m] wx fun e w' => e = .returned (.tuple #[.int .i64 b, .int .i64 0]) ∧ Below wx.heap.size wx w'
  ak : ∀ wx, Below w.heap.size w wx → Calls Try.prog 10 #[.agg #[.int .i64 W, .slice p N c], .int .i64 a, .int .i64 k] wx fun e w' => e = .returned (.tuple #[.int .i64 b, .int .i64 0]) ∧ Below wx.heap.size wx w'
  cm : ∀ wx, Below w.heap.size w wx → Calls Try.prog 11 #[.agg #[.int .i64 W, .slice p N c], .int .i64 a, .int .i64 b] wx fun e w' => e = .returned (.tuple #[.int .i64 k, .int .i64 0]) ∧ Below wx.heap.size wx w'
  cp : ∀ wx, Below w.heap.size w wx → Calls Try.prog 11 #[.agg #[.int .i64 W, .slice p N c], .int .i64 n, .int .i64 a] wx fun e w' => e = .returned (.tuple #[.int .i64 P, .int .i64 0]) ∧ Below wx.heap.size wx w'
  cq : ∀ wx, Below w.heap.size w wx → Calls Try.prog 11 #[.agg #[.int .i64 W, .slice p N c], .int .i64 n, .int .i64 b] wx fun e w' => e = .returned (.tuple #[.int .i64 Q, .int .i64 0]) ∧ Below wx.heap.size wx w'
  cr : ∀ wx, Below w.heap.size w wx → Calls Try.prog 11 #[.agg #[.int .i64 W, .slice p N c], .int .i64 b, .int .i64 n] wx fun e w' => e = .returned (.tuple #[.int .i64 (-Q), .int .i64 0]) ∧ Below wx.heap.size wx w'

set_option maxHeartbeats 3200000 in
theorem calSteps_good (W n j k m a b P Q : Int) (p : Option Addr) (N c : Nat) (w : World) (hN : N ≤ 12) (j0 : ¬ j < 1) (j1 : ¬ 200 < j) (k0 : ¬ k < 1) (k1 : ¬ 200 < k) (hm : j + k = m) (hP0 : 0 ≤ P) (hP1 : P ≤ 1000000) (hPQ : P + k = Q) (H : Hid (StepH w W n j k m a b P Q p N c)) :
    Calls Try.prog 4 #[.agg #[.int .i64 W, .slice p N c], .int .i64 n, .int .i64 j, .int .i64 k] w fun e w' => e = .returned (.bool true) ∧ Below w.heap.size w w' := by
  have HFw := hideS (fun wx => few_any W p N c wx (by omega))
  rw [decide_eq_true hN] at HFw
  go_enter Try.func4, Try.ntmps4
  go_wp2_with fail
  refine (HFw.out _).mono ?_
  rintro e w1 ⟨rfl, hb1⟩
  have X1 := hideS (CBoxP.first hb1)
  clear hb1
  obtain ⟨c0, c1⟩ := X1.out.cells
  go_wp2_with fail
  refine (H.out.aj _ X1.out.below).mono ?_
  rintro e w2 ⟨rfl, hb2⟩
  have X2 := hideS (X1.out.step hb2)
  clear hb2 c0 c1 X1
  obtain ⟨c0, c1⟩ := X2.out.cells
  go_wp2_with fail
  refine (H.out.am _ X2.out.below).mono ?_
  rintro e w3 ⟨rfl, hb3⟩
  have X3 := hideS (X2.out.step hb3)
  clear hb3 c0 c1 X2
  obtain ⟨c0, c1⟩ := X3.out.cells
  go_wp2_with fail
  refine (H.out.ak _ X3.out.below).mono ?_
  rintro e w4 ⟨rfl, hb4⟩
  have X4 := hideS (X3.out.step hb4)
  clear hb4 c0 c1 X3
  obtain ⟨c0, c1⟩ := X4.out.cells
  go_wp2_with fail
  refine (H.out.cm _ X4.out.below).mono ?_
  rintro e w5 ⟨rfl, hb5⟩
  have X5 := hideS (X4.out.step hb5)
  clear hb5 c0 c1 X4
  obtain ⟨c0, c1⟩ := X5.out.cells
  go_wp2_with fail
  refine (H.out.cp _ X5.out.below).mono ?_
  rintro e w6 ⟨rfl, hb6⟩
  have X6 := hideS (X5.out.step hb6)
  clear hb6 c0 c1 X5
  obtain ⟨c0, c1⟩ := X6.out.cells
  go_wp2_with fail
  refine (H.out.cq _ X6.out.below).mono ?_
  rintro e w7 ⟨rfl, hb7⟩
  have X7 := hideS (X6.out.step hb7)
  clear hb7 c0 c1 X6
  obtain ⟨c0, c1⟩ := X7.out.cells
  go_wp2_with fail
  refine (H.out.cr _ X7.out.below).mono ?_
  rintro e w8 ⟨rfl, hb8⟩
  have X8 := hideS (X7.out.step hb8)
  clear hb8 c0 c1 X7
  go_wp2_with (go_at_call 8; refine (awake6 _).mono ?_; rintro e w9 ⟨rfl, hb9⟩)
  go_ret
  exact ⟨rfl, (X8.out.step hb9).below⟩

theorem calSteps_walk (W n j k : Int) (p : Option Addr) (b off c : Nat) (rs : List Rul) (w : World) (hs : RSrc w p b off rs) (hl : rs.length ≤ 9223372036854775807) (_ : I64 W) (_ : ∀ r ∈ rs, RulI r) (_ : I64 n) (_ : I64 j) (_ : I64 k) :
    Calls Try.prog 4 #[.agg #[.int .i64 W, .slice p rs.length c], .int .i64 n, .int .i64 j, .int .i64 k] w fun e w' => e = .returned (.bool true) ∧ Below w.heap.size w w' := by
  by_cases hg : rs.length ≤ 12 ∧ 1 ≤ j ∧ j ≤ 200 ∧ 1 ≤ k ∧ k ≤ 200
  · obtain ⟨h12, j0, j1, k0, k1⟩ := hg
    obtain ⟨A, B, h⟩ := chk_ex W rs
    by_cases hbad : A ≠ 0 ∨ ¬ isDayP n
    · have hE : ((if A ≠ 0 then A else 51) != 0) = true := bne_iff_ne.2 (by split <;> omega)
      exact calSteps_err W n j k (j + k) 0 _ 0 _ p rs.length c w h12 (by omega) (by omega) (by omega) (by omega) rfl hE (Or.inl hE) (fun wx hb => addP_bad W n j p b off c rs A B wx h (hs.below hb) hl (by omega) hbad) (fun wx hb => addP_bad W n (j + k) p b off c rs A B wx h (hs.below hb) hl (by omega) hbad)
    · have hA : A = 0 := Classical.byContradiction fun a => hbad (Or.inl a)
      have hn : isDayP n := Classical.byContradiction fun a => hbad (Or.inr a)
      subst hA
      obtain ⟨hok, _⟩ := chk_ok h
      have add : ∀ x q, isDayP x → 1 ≤ q → q ≤ 400 → ∀ wx, Below w.heap.size w wx → Calls Try.prog 10 #[.agg #[.int .i64 W, .slice p rs.length c], .int .i64 x, .int .i64 q] wx fun e w' => e = .returned (.tuple #[.int .i64 ((addO (opB W rs) 1 q.toNat x).getD 0), .int .i64 (ansE (addO (opB W rs) 1 q.toNat x))]) ∧ Below wx.heap.size wx w' := fun x q hx q0 q1 wx hb => by
        have := addP_ok W x q p b off c rs wx hok (hs.below hb) hx (by omega) (by omega) (by omega)
        rw [if_neg (by omega), show q.natAbs = q.toNat by omega] at this
        exact this
      have aj := add n j hn j0 (by omega)
      have am := add n (j + k) hn (by omega) (by omega)
      have hsplit := addO_add (opB W rs) 1 j.toNat k.toNat n
      rw [show j.toNat + k.toNat = (j + k).toNat by omega] at hsplit
      cases ha : addO (opB W rs) 1 j.toNat n with
      | none =>
        rw [ha] at hsplit aj
        rw [show addO (opB W rs) 1 (j + k).toNat n = none from hsplit] at am
        exact calSteps_err W n j k (j + k) 0 51 0 51 p rs.length c w h12 (by omega) (by omega) (by omega) (by omega) rfl rfl (Or.inl rfl) aj am
      | some a =>
        rw [ha] at hsplit aj
        have hak : addO (opB W rs) 1 (j + k).toNat n = addO (opB W rs) 1 k.toNat a := hsplit
        rw [hak] at am
        obtain ⟨had, hna, haop, _⟩ := add_cnt j.toNat n a hn ha
        obtain ⟨hao, hna2⟩ := haop (by omega)
        have akk := add a k had k0 (by omega)
        cases hb : addO (opB W rs) 1 k.toNat a with
        | none =>
          rw [hb] at am
          exact calSteps_err W n j k (j + k) a 0 0 51 p rs.length c w h12 (by omega) (by omega) (by omega) (by omega) rfl rfl (Or.inr rfl) aj am
        | some x =>
          rw [hb] at am akk
          obtain ⟨hxd, hax, hxop, _⟩ := add_cnt k.toNat a x had hb
          obtain ⟨hxo, hax2⟩ := hxop (by omega)
          have hcm := add_cnt_open had (by omega) hao hb
          have hadd := cnt_split (opB W rs) n (a - n).toNat (x - a).toNat
          rw [show (a - n).toNat + (x - a).toNat = (x - n).toNat by omega, show n + (((a - n).toNat : Nat) : Int) = a by omega, hcm] at hadd
          have hle := cnt_le (opB W rs) n (a - n).toNat
          have cm : ∀ wx, Below w.heap.size w wx → Calls Try.prog 11 #[.agg #[.int .i64 W, .slice p rs.length c], .int .i64 a, .int .i64 x] wx fun e w' => e = .returned (.tuple #[.int .i64 k, .int .i64 0]) ∧ Below wx.heap.size wx w' := fun wx hb2 => by
            have := cntP_up W a x p b off c rs wx hok (hs.below hb2) had hxd (by omega)
            rw [hcm, show ((k.toNat : Nat) : Int) = k by omega] at this; exact this
          have hr := had.2
          have hn0 := hn.1
          exact calSteps_good W n j k (j + k) a x (cntN (opB W rs) n (a - n).toNat : Nat) (cntN (opB W rs) n (x - n).toNat : Nat) p rs.length c w h12 (by omega) (by omega) (by omega) (by omega) rfl (by omega) (by omega) (by omega)
            ⟨aj, am, akk, cm, fun wx hb2 => cntP_up W n a p b off c rs wx hok (hs.below hb2) hn had (by omega), fun wx hb2 => cntP_up W n x p b off c rs wx hok (hs.below hb2) hn hxd (by omega), fun wx hb2 => cntP_down W x n p b off c rs wx hok (hs.below hb2) hxd hn (by omega)⟩
  · exact calSteps_skip W n j k p rs.length c w hl (by omega)
end Go.Proofs.Ytglkhoekpafddab
