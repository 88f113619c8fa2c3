/- The contracts of package acc's Left, Pair and Kahan at any floats. -/
import Derived.Test.YtdmldggjgaaliaaGreatOpO
import Derived.Test.YtdmldggjgaaliaaGreatRefHorner
namespace Go.Proofs.YtdmldggjgaaliaaGreat
open Go.RowKit

/-- Step by step from the left. -/
def leftAt (xs : List Nat) : Nat → Option Nat
  | 0 => some 0
  | k + 1 => opO .add (leftAt xs k) (some (xs.getD k 0))
theorem ag_step {o : Option Nat} {a x r : Nat} {op : BinOp} (h : Ag o a) (hr : Ag (floatBits op .f64 a x) r) : Ag (opO op o (some x)) r := by
  rw [opO_ag (op := op) (o' := some x) (c := x) h rfl]; exact hr
theorem ag_step2 {o o' : Option Nat} {a x r : Nat} {op : BinOp} (h : Ag o a) (h' : Ag o' x) (hr : Ag (floatBits op .f64 a x) r) : Ag (opO op o o') r := by
  rw [opO_ag h h']; exact hr

set_option maxHeartbeats 800000 in
theorem left_ag (p : Option Addr) (g off c n : Nat) (xs : List Nat) (w : World) (hs : Src w p g off xs) (hN : xs.length = n) (hn : n ≤ 1000000) :
    Calls Tryz.prog 11 #[.slice p n c] w fun e w' => ∃ r, e = .returned (.float .f64 r) ∧ Ag (leftAt xs n) r ∧ ∃ q, w' = w.drewN q := by
  have HS := hideS hs
  have HN := hideS hN
  clear hs hN
  go_enter Tryz.func11, Tryz.ntmps11
  go_wp2_with fail
  go_loopw [3, 5, 8] (fun s _ i wr => ∃ k a : Nat, k ≤ n ∧ i = .int .i64 k ∧ s = .float .f64 a ∧ Hid (Ag (leftAt xs k) a) ∧ Hid (∃ q, wr = w.drewN q)) (fun _ _ i _ => n - (intOf i).toNat)
  case atStart => exact ⟨0, 0, Nat.zero_le _, rfl, rfl, rfl, ⟨0, rfl⟩⟩
  case round =>
    obtain ⟨k, a, hk, rfl, rfl, HA, HQ⟩ := hrel
    by_cases hlt : k < n
    · have hx : k < xs.length := by rw [HN.out]; exact hlt
      obtain rfl := HS.out.at_ (by omega)
      have hcx : wr.cell? ⟨g, off + k, none⟩ = some (.float .f64 (xs.getD k 0)) := by obtain ⟨q, e⟩ := HQ.out; rw [e]; exact HS.out.cell k hx
      have HA2 : Hid (∀ r, Ag (floatBits .add .f64 a (xs.getD k 0)) r → Ag (leftAt xs (k + 1)) r) := fun r hr => ag_step HA.out hr
      clear hx
      generalize xs.getD k 0 = x at hcx HA2
      obtain ⟨r, ⟨q1, r1⟩, g1⟩ := run_op_ag .add (by simp) 26 a x wr
      have HR := hideS (HA2.out r g1)
      clear g1 HA HA2
      go_wp2_with fail
      go_roundw
      case rel => exact ⟨k + 1, r, by omega, by simp, rfl, HR, by obtain ⟨q, e⟩ := HQ.out; exact ⟨q + q1, by rw [e, World.drewN_drewN]⟩⟩
      case measure => simp [intOf]; omega
    · obtain rfl : k = n := by omega
      go_wp2
      go_ret
      exact ⟨a, rfl, HA.out, HQ.out⟩

/-- The halves, each so itself. -/
def pairO (xs : List Nat) : Option Nat :=
  if h : xs.length ≤ 1 then some (xs.getD 0 0)
  else opO .add (pairO (xs.take (xs.length / 2))) (pairO (xs.drop (xs.length / 2)))
termination_by xs.length
decreasing_by
  · rw [List.length_take]; omega
  · rw [List.length_drop]; omega
theorem pairO_small {xs : List Nat} (h : xs.length ≤ 1) : pairO xs = some (xs.getD 0 0) := by rw [pairO, dif_pos h]
theorem pairO_big {xs : List Nat} (h : ¬ xs.length ≤ 1) : pairO xs = opO .add (pairO (xs.take (xs.length / 2))) (pairO (xs.drop (xs.length / 2))) := by rw [pairO, dif_neg h]

theorem src_part {w : World} {g off : Nat} {xs : List Nat} {p : Option Addr} (h : Src w p g off xs) (k : Nat) : Src w p g off (xs.take k) :=
  ⟨fun h0 => h.at_ (by simp at h0; omega), fun h0 => h.lt (by simp at h0; omega), fun j hj => by
    simp at hj
    rw [h.cell j (by omega)]
    simp [List.getD, List.getElem?_take_of_lt (show j < k by omega)]⟩
theorem src_rest {w : World} {g off : Nat} {xs : List Nat} {p : Option Addr} (h : Src w p g off xs) (k : Nat) : Src w (some ⟨g, off + k, none⟩) g (off + k) (xs.drop k) :=
  ⟨fun _ => rfl, fun h0 => h.lt (by simp at h0; omega), fun j hj => by
    simp at hj
    have := h.cell (k + j) (by omega)
    rw [← Nat.add_assoc] at this
    rw [this]
    simp [List.getD]⟩
theorem src_drewN {w : World} {g off : Nat} {xs : List Nat} {p : Option Addr} (h : Src w p g off xs) (n : Nat) : Src (w.drewN n) p g off xs := ⟨h.at_, h.lt, h.cell⟩
theorem cut_low (g off n c h : Nat) (w : World) (hh : h ≤ c) : (Instr.slice 22 (.slice (some ⟨g, off, none⟩) n c) none (some (.int .i64 (h : Int))) none).run Tryz.prog w = .ok (.slice (some ⟨g, off, none⟩) h c) w := by
  simp [Instr.slice, Instr.sliceBounds, Instr.sliceBound, asIntOf, run_underlying Tryz.underlying22, Tryz.sizeOf26, hh, Addr.add_lit]
theorem drew_two (w : World) (a b : Nat) : (w.drewN a).drewN b = w.drewN (a + b) := by simp [World.drewN, Nat.add_assoc]
theorem cut_high (g off n c h : Nat) (w : World) (hh : h < n) (hc : n ≤ c) : (Instr.slice 22 (.slice (some ⟨g, off, none⟩) n c) (some (.int .i64 (h : Int))) none none).run Tryz.prog w = .ok (.slice (some ⟨g, off + h, none⟩) (n - h) (c - h)) w := by
  have h1 : h ≤ n := by omega
  have h2 : ¬ c = h := by omega
  simp [Instr.slice, Instr.sliceBounds, Instr.sliceBound, asIntOf, run_underlying Tryz.underlying22, Tryz.sizeOf26, h1, h2, Addr.add_lit]

set_option maxHeartbeats 800000 in
theorem pair_ag (n : Nat) : ∀ (p : Option Addr) (g off c : Nat) (xs : List Nat) (w : World), xs.length = n → Src w p g off xs → n ≤ c → c ≤ 9223372036854775807 →
    Calls Tryz.prog 13 #[.slice p n c] w fun e w' => ∃ r, e = .returned (.float .f64 r) ∧ Ag (pairO xs) r ∧ ∃ q, w' = w.drewN q := by
  induction n using Nat.strongRecOn with
  | _ n ih =>
    intro p g off c xs w hN hs hc hc63
    by_cases h0 : n = 0
    · subst h0
      have HR : Hid (Ag (pairO xs) 0) := by
        show Ag _ _
        rw [pairO_small (by omega), List.length_eq_zero_iff.1 hN]; rfl
      clear ih hs
      go_enter Tryz.func13, Tryz.ntmps13
      go_wp2
      go_ret
      exact ⟨_, rfl, HR.out, 0, rfl⟩
    by_cases h1 : n = 1
    · subst h1
      have hcx := hs.cell 0 (by omega)
      obtain rfl := hs.at_ (by omega)
      have HR : Hid (Ag (pairO xs) (xs.getD 0 0)) := by
        show Ag _ _
        rw [pairO_small (by omega)]; rfl
      rw [Nat.add_zero] at hcx
      generalize xs.getD 0 0 = x at hcx HR
      clear ih hs
      go_enter Tryz.func13, Tryz.ntmps13
      go_wp2
      go_ret
      exact ⟨_, rfl, HR.out, 0, rfl⟩
    obtain ⟨h, hh⟩ : ∃ h, n / 2 = h := ⟨_, rfl⟩
    have hq : (n : Int) / 2 = (h : Int) := by omega
    have hh1 : 1 ≤ h := by omega
    have hh2 : h < n := by omega
    obtain rfl := hs.at_ (by omega)
    have HE : Hid (pairO xs = opO .add (pairO (xs.take h)) (pairO (xs.drop h))) := by
      show _ = _
      rw [pairO_big (by omega), hN, hh]
    have HL : Hid (∀ W : World, (∃ k, W = w.drewN k) → Calls Tryz.prog 13 #[.slice (some ⟨g, off, none⟩) h c] W fun e w' => ∃ r, e = .returned (.float .f64 r) ∧ Ag (pairO (xs.take h)) r ∧ ∃ q, w' = W.drewN q) := fun W ⟨k, hW⟩ => by
      subst hW
      exact ih h hh2 (some ⟨g, off, none⟩) g off c (xs.take h) (w.drewN k) (by simp; omega) (src_drewN (src_part hs h) k) (by omega) hc63
    have HR : Hid (∀ W : World, (∃ k, W = w.drewN k) → Calls Tryz.prog 13 #[.slice (some ⟨g, off + h, none⟩) (n - h) (c - h)] W fun e w' => ∃ r, e = .returned (.float .f64 r) ∧ Ag (pairO (xs.drop h)) r ∧ ∃ q, w' = W.drewN q) := fun W ⟨k, hW⟩ => by
      subst hW
      exact ih (n - h) (by omega) (some ⟨g, off + h, none⟩) g (off + h) (c - h) (xs.drop h) (w.drewN k) (by simp; omega) (src_drewN (src_rest hs h) k) (by omega) (by omega)
    have c1 := fun w => cut_low g off n c h w (by omega)
    have c2 := fun w => cut_high g off n c h w hh2 hc
    clear hs hN ih
    go_enter Tryz.func13, Tryz.ntmps13
    go_wp2_with fail
    go_region_with (first | ((go_at_call_of 13 (Value.slice (some ⟨g, off, none⟩) h c); refine (HL.out _ ⟨1, rfl⟩).mono ?_; rintro e w1 ⟨r1, rfl, g1, q1, hw1⟩; have G1 := hideS g1; have HW1 : Hid (∃ k, w1 = w.drewN k) := ⟨1 + q1, by rw [hw1]; exact drew_two w 1 q1⟩; clear g1 hw1)) | ((go_at_call 13; refine (HR.out _ HW1.out).mono ?_; rintro e w2 ⟨r2, rfl, g2, q2, hw2⟩; have HW2 : Hid (∃ k, w2 = w.drewN k) := (by obtain ⟨k1, e1⟩ := HW1.out; exact ⟨k1 + q2, by rw [hw2, e1]; exact drew_two w k1 q2⟩); obtain ⟨r3, ⟨q3, hrun⟩, g3⟩ := run_op_ag .add (by simp) 26 r1 r2 w2; have G3 : Hid (Ag (pairO xs) r3) := (by rw [HE.out]; exact ag_step2 G1.out g2 g3); clear g2 g3 hw2)))
    all_goals
      go_wp2_with fail
      go_ret
      exact ⟨r3, rfl, G3.out, by obtain ⟨k, e⟩ := HW2.out; exact ⟨k + q3, by rw [e]; exact drew_two w k q3⟩⟩

/-- Is the elder one not the smaller one in size? -/
def fB (a x : Nat) : Bool := !nanB (a : Int) && !nanB (x : Int) && decide (x % 9223372036854775808 ≤ a % 9223372036854775808)
/-- The sum and what the steps lost. -/
def kahAt (xs : List Nat) : Nat → Option Nat × Option Nat
  | 0 => (some 0, some 0)
  | k + 1 =>
    (opO .add (kahAt xs k).1 (some (xs.getD k 0)),
      if fB (cn (kahAt xs k).1) (xs.getD k 0) then opO .add (kahAt xs k).2 (opO .add (opO .sub (kahAt xs k).1 (opO .add (kahAt xs k).1 (some (xs.getD k 0)))) (some (xs.getD k 0)))
      else opO .add (kahAt xs k).2 (opO .add (opO .sub (some (xs.getD k 0)) (opO .add (kahAt xs k).1 (some (xs.getD k 0)))) (kahAt xs k).1))
def kahO (xs : List Nat) (n : Nat) : Option Nat := opO .add (kahAt xs n).1 (kahAt xs n).2
theorem gtB_iff (x y : Int) : (compare x y == .gt) = decide (y < x) := by
  show (compareOfLessAndEq x y == .gt) = _
  unfold compareOfLessAndEq
  by_cases a : x < y
  · have : ¬ y < x := by omega
    simp [a, this]
  · by_cases b : x = y
    · simp [b]
    · have : y < x := by omega
      simp [a, b, this]
theorem gt_rankB {a b : Nat} (ha : U64 a) (hb : U64 b) (hna : nanB a = false) (hnb : nanB b = false) : (FloatKind.f64.format.order a b == some .gt) = decide (rankI b < rankI a) := by
  rw [order_rank (by have := ha.2; omega) (by have := hb.2; omega) hna hnb, ← gtB_iff]; rfl
theorem fB_ag {o : Option Nat} {a : Nat} (h : Ag o a) (x : Nat) : fB (cn o) x = fB a x := by
  cases o with
  | none =>
    unfold fB
    rw [cn_none, (ag_none h).1, cn_nan]; rfl
  | some r => rw [ag_some h, cn_some]
theorem abs_both (a x : Nat) : ((FloatKind.f64.format.order (szI (a : Int)).toNat (szI (x : Int)).toNat == some .gt) || (FloatKind.f64.format.order (szI (a : Int)).toNat (szI (x : Int)).toNat == some .eq)) = fB a x := by
  have e1 : (szI (a : Int)).toNat = a % 9223372036854775808 := by rw [szI_nat]; rfl
  have e2 : (szI (x : Int)).toNat = x % 9223372036854775808 := by rw [szI_nat]; rfl
  rw [e1, e2]
  unfold fB
  have nn : ∀ {b : Nat}, nanB (b : Int) = nanB ((b % 9223372036854775808 : Nat) : Int) := fun {b} => by
    unfold nanB szI; apply decide_eq_decide.2; omega
  cases h1 : nanB (a : Int) with
  | true => rw [order_nan_left (by rw [← nn]; exact h1)]; rfl
  | false =>
    cases h2 : nanB (x : Int) with
    | true => rw [order_nan_right (by rw [← nn]; exact h2)]; simp
    | false =>
      have u1 : U64 ((a % 9223372036854775808 : Nat) : Int) := u64_of_nat (by omega)
      have u2 : U64 ((x % 9223372036854775808 : Nat) : Int) := u64_of_nat (by omega)
      have n1 : nanB ((a % 9223372036854775808 : Nat) : Int) = false := by rw [← nn]; exact h1
      have n2 : nanB ((x % 9223372036854775808 : Nat) : Int) = false := by rw [← nn]; exact h2
      have rk : ∀ {b : Nat}, nanB ((b % 9223372036854775808 : Nat) : Int) = false → rankI ((b % 9223372036854775808 : Nat) : Int) = ((b % 9223372036854775808 : Nat) : Int) := fun {b} hb => by
        unfold rankI
        rw [hb, if_neg (by decide)]
        have : sgB ((b % 9223372036854775808 : Nat) : Int) = false := by unfold sgB; rw [decide_eq_false_iff_not]; omega
        rw [this, if_neg (by decide)]
        unfold szI; omega
      rw [gt_rankB u1 u2 n1 n2, eq_rank u1 u2 n1 n2, rk n1, rk n2]
      simp only [Bool.not_false, Bool.true_and]
      rw [← Bool.decide_or]
      apply decide_eq_decide.2
      omega
theorem ag_u64 {op : BinOp} (ho : op = .add ∨ op = .sub ∨ op = .mul ∨ op = .quo) {x y r : Nat} (h : Ag (floatBits op .f64 x y) r) : U64 (r : Int) := by
  cases hf : floatBits op .f64 x y with
  | none => rw [hf] at h; exact u64_of_nat (ag_none h).2
  | some q => rw [hf] at h; rw [ag_some h]; exact u64_of_nat (float_lt ho hf)

set_option maxHeartbeats 400000 in
theorem absF_any (b : Nat) (w : World) (h : U64 b) :
    Calls Tryz.prog 29 #[.float .f64 b] w fun e w' => e = .returned (.float .f64 (szI b).toNat) ∧ w = w' := by
  have h1 := call_bits
  have h2 := call_frombits
  have h3 := andNot_sz h
  go_enter Tryz.func29, Tryz.ntmps29
  go_wp2
  go_ret
  exact ⟨rfl, rfl⟩

set_option maxRecDepth 20000 in
set_option maxHeartbeats 1600000 in
theorem kahan_ag (p : Option Addr) (g off c n : Nat) (xs : List Nat) (w : World) (hs : Src w p g off xs) (hf : FitL xs) (hN : xs.length = n) (hn : n ≤ 1000000) :
    Calls Tryz.prog 15 #[.slice p n c] w fun e w' => ∃ r, e = .returned (.float .f64 r) ∧ Ag (kahO xs n) r ∧ ∃ q, w' = w.drewN q := by
  have HS := hideS hs
  have HF := hideS hf
  have HN := hideS hN
  clear hs hN hf
  go_enter Tryz.func15, Tryz.ntmps15
  go_wp2_with fail
  go_loopw [3, 4, 6, 7, 10] (fun s e _ _ i wr => ∃ k a d : Nat, k ≤ n ∧ i = .int .i64 k ∧ s = .float .f64 a ∧ e = .float .f64 d ∧ Hid (Ag (kahAt xs k).1 a) ∧ Hid (Ag (kahAt xs k).2 d) ∧ Hid (U64 (a : Int)) ∧ Hid (∃ q, wr = w.drewN q)) (fun _ _ _ _ i _ => n - (intOf i).toNat)
  case atStart => exact ⟨0, 0, 0, Nat.zero_le _, rfl, rfl, rfl, rfl, rfl, by show U64 _; unfold U64; omega, ⟨0, rfl⟩⟩
  case round =>
    obtain ⟨k, a, d, hk, rfl, rfl, rfl, HA, HD, HU, HQ⟩ := hrel
    by_cases hlt : k < n
    · have hx : k < xs.length := by rw [HN.out]; exact hlt
      obtain rfl := HS.out.at_ (by omega)
      have hcx : wr.cell? ⟨g, off + k, none⟩ = some (.float .f64 (xs.getD k 0)) := by obtain ⟨q, e⟩ := HQ.out; rw [e]; exact HS.out.cell k hx
      have HUx : Hid (U64 ((xs.getD k 0 : Nat) : Int)) := u64_of_nat (HF.out.get k)
      have H1 : Hid ((kahAt xs (k + 1)).1 = opO .add (kahAt xs k).1 (some (xs.getD k 0))) := rfl
      have H2 : Hid ((kahAt xs (k + 1)).2 = if fB (cn (kahAt xs k).1) (xs.getD k 0) then opO .add (kahAt xs k).2 (opO .add (opO .sub (kahAt xs k).1 (opO .add (kahAt xs k).1 (some (xs.getD k 0)))) (some (xs.getD k 0))) else opO .add (kahAt xs k).2 (opO .add (opO .sub (some (xs.getD k 0)) (opO .add (kahAt xs k).1 (some (xs.getD k 0)))) (kahAt xs k).1)) := rfl
      generalize xs.getD k 0 = x at hcx HUx H1 H2
      rw [fB_ag HA.out] at H2
      have hcmp := abs_both a x
      have HAb := hideS fun w => absF_any a w HU.out
      have HAc := hideS fun w => absF_any x w HUx.out
      generalize (szI (a : Int)).toNat = a' at hcmp HAb
      generalize (szI (x : Int)).toNat = x' at hcmp HAc
      obtain ⟨t, ⟨q1, r1⟩, g1⟩ := run_op_ag .add (by simp) 26 a x wr
      have HT1 : Hid (Ag (opO .add (kahAt xs k).1 (some x)) t) := ag_step HA.out g1
      have HUt := hideS (ag_u64 (by simp) g1)
      clear hx g1
      cases hfb : fB a x with
      | true =>
        rw [hfb] at hcmp H2
        simp only [if_true] at H2
        obtain ⟨d1, ⟨q2, r2⟩, g2⟩ := run_op_ag .sub (by simp) 26 a t (wr.drewN q1)
        obtain ⟨d2, ⟨q3, r3⟩, g3⟩ := run_op_ag .add (by simp) 26 d1 x (wr.drewN (q1 + q2))
        obtain ⟨d3, ⟨q4, r4⟩, g4⟩ := run_op_ag .add (by simp) 26 d d2 (wr.drewN (q1 + q2 + q3))
        have HD3 : Hid (Ag (kahAt xs (k + 1)).2 d3) := by
          rw [H2.out]; exact ag_step2 HD.out (ag_step (ag_step2 HA.out HT1.out g2) g3) g4
        have HT3 : Hid (Ag (kahAt xs (k + 1)).1 t) := by rw [H1.out]; exact HT1.out
        clear g2 g3 g4 H1 H2 HT1 HA HD hfb
        generalize ho1 : (FloatKind.f64.format.order a' x' == some .gt) = o1 at hcmp
        generalize ho2 : (FloatKind.f64.format.order a' x' == some .eq) = o2 at hcmp
        cases o1 <;> cases o2
        all_goals first | (exfalso; exact Bool.noConfusion hcmp) | skip
        all_goals
          clear hcmp
          go_wp2_with fail
          refine (HAb.out _).mono ?_
          rintro e w' ⟨rfl, rfl⟩
          go_wp2_with fail
          refine (HAc.out _).mono ?_
          rintro e w' ⟨rfl, rfl⟩
          go_wp2_with fail
          go_roundw
          case rel => exact ⟨k + 1, t, d3, by omega, by simp, rfl, rfl, HT3, HD3, HUt, by obtain ⟨q, e⟩ := HQ.out; exact ⟨q + (q1 + q2 + q3 + q4), by rw [e, World.drewN_drewN]⟩⟩
          case measure => simp [intOf]; omega
      | false =>
        rw [hfb] at hcmp H2
        simp only [Bool.false_eq_true, if_false] at H2
        obtain ⟨d1, ⟨q2, r2⟩, g2⟩ := run_op_ag .sub (by simp) 26 x t (wr.drewN q1)
        obtain ⟨d2, ⟨q3, r3⟩, g3⟩ := run_op_ag .add (by simp) 26 d1 a (wr.drewN (q1 + q2))
        obtain ⟨d3, ⟨q4, r4⟩, g4⟩ := run_op_ag .add (by simp) 26 d d2 (wr.drewN (q1 + q2 + q3))
        have HD3 : Hid (Ag (kahAt xs (k + 1)).2 d3) := by
          rw [H2.out]; exact ag_step2 HD.out (ag_step2 (ag_step2 (o := some x) rfl HT1.out g2) HA.out g3) g4
        have HT3 : Hid (Ag (kahAt xs (k + 1)).1 t) := by rw [H1.out]; exact HT1.out
        clear g2 g3 g4 H1 H2 HT1 HA HD hfb
        have ho1 : (FloatKind.f64.format.order a' x' == some .gt) = false := by
          cases h : (FloatKind.f64.format.order a' x' == some .gt) with
          | false => rfl
          | true => rw [h] at hcmp; exact hcmp
        have ho2 : (FloatKind.f64.format.order a' x' == some .eq) = false := by rw [ho1, Bool.false_or] at hcmp; exact hcmp
        clear hcmp
        go_wp2_with fail
        refine (HAb.out _).mono ?_
        rintro e w' ⟨rfl, rfl⟩
        go_wp2_with fail
        refine (HAc.out _).mono ?_
        rintro e w' ⟨rfl, rfl⟩
        go_wp2_with fail
        go_roundw
        case rel => exact ⟨k + 1, t, d3, by omega, by simp, rfl, rfl, HT3, HD3, HUt, by obtain ⟨q, e⟩ := HQ.out; exact ⟨q + (q1 + q2 + q3 + q4), by rw [e, World.drewN_drewN]⟩⟩
        case measure => simp [intOf]; omega
    · obtain rfl : k = n := by omega
      obtain ⟨r, ⟨q1, r1⟩, g1⟩ := run_op_ag .add (by simp) 26 a d wr
      have HR : Hid (Ag (kahO xs k) r) := ag_step2 HA.out HD.out g1
      clear g1
      go_wp2_with fail
      go_ret
      exact ⟨r, rfl, HR.out, by obtain ⟨q, e⟩ := HQ.out; exact ⟨q + q1, by rw [e, World.drewN_drewN]⟩⟩
end Go.Proofs.YtdmldggjgaaliaaGreat
