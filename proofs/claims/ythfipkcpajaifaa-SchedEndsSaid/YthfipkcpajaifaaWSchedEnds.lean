/- The walk of SchedEnds: dates rise from the start to the end; periods follow one another. -/
import Derived.Test.YthfipkcpajaifaaSpN
import Derived.Test.YthfipkcpajaifaaQLaw
namespace Go.Proofs.Ythfipkcpajaifaa
open Go.RowKit

/-- What a period has to do with its neighbours. -/
structure PerFit (l : List Int) (conv lag : Int) (rs : List Per) (i : Nat) : Prop where
  fr : (rs.getD i per0).fr = l.getD i 0
  to : (rs.getD i per0).to = l.getD (i + 1) 0
  st : 0 < i → (rs.getD i per0).st = (rs.getD (i - 1) per0).en
  se : conv = 0 → ¬ (rs.getD i per0).en < (rs.getD i per0).st
  p0 : lag = 0 → (rs.getD i per0).pay = (rs.getD i per0).en
  p1 : 0 < lag → ¬ (rs.getD i per0).pay ≤ (rs.getD i per0).en
theorem per_all {op : Int → Bool} {s : Spc} {a b : Int} {r : Per} (h : perO op s a b = some r) : r.fr = a ∧ r.to = b ∧ adjO op a s.conv = some r.st ∧ adjO op b s.conv = some r.en ∧ (¬ 0 < s.lag → r.pay = r.en) ∧ (0 < s.lag → addO op 1 s.lag.toNat r.en = some r.pay) := by
  rcases perO_cases op s a b with ⟨_, e⟩ | ⟨_, _, _, e⟩ | ⟨x, y, hx, hy, hl, e⟩ | ⟨_, _, _, _, _, _, e⟩ | ⟨x, y, z, hx, hy, hl, hz, e⟩
  · rw [e] at h; cases h
  · rw [e] at h; cases h
  · rw [e] at h
    obtain rfl := Option.some.inj h
    exact ⟨rfl, rfl, hx, hy, fun _ => rfl, fun h => absurd h hl⟩
  · rw [e] at h; cases h
  · rw [e] at h
    obtain rfl := Option.some.inj h
    exact ⟨rfl, rfl, hx, hy, fun h => absurd hl h, fun _ => hz⟩
theorem perL_get {op : Int → Bool} {s : Spc} {l : List Int} {N i : Nat} (hi : i < N) : (perL op s l N).getD i per0 = (perI op s l i).getD per0 := by
  unfold perL; simp [List.getD, hi]
theorem per_fit {op : Int → Bool} {s : Spc} {K : Nat} (h : SpcOk s) (hK : DatR s K) (ha : ∀ j < cutN s K + 1, (perI op s (datL s (cutN s K)) j).isSome = true) {i : Nat} (hi : i < cutN s K + 1) : PerFit (datL s (cutN s K)) s.conv s.lag (perL op s (datL s (cutN s K)) (cutN s K + 1)) i := by
  obtain ⟨r, hr⟩ := Option.isSome_iff_exists.1 (ha i hi)
  have e1 : (perL op s (datL s (cutN s K)) (cutN s K + 1)).getD i per0 = r := by rw [perL_get hi, hr]; rfl
  obtain ⟨f1, f2, f3, f4, f5, f6⟩ := per_all hr
  have hlt := dat_lt h hK (cut_le s K) (i := i) (by omega)
  refine ⟨by rw [e1]; exact f1, by rw [e1]; exact f2, fun h0 => ?_, fun hc => ?_, fun hl => by rw [e1]; exact f5 (by omega), fun hl => ?_⟩
  · obtain ⟨r', hr'⟩ := Option.isSome_iff_exists.1 (ha (i - 1) (by omega))
    have e2 : (perL op s (datL s (cutN s K)) (cutN s K + 1)).getD (i - 1) per0 = r' := by rw [perL_get (by omega), hr']; rfl
    obtain ⟨_, _, _, g4, _, _⟩ := per_all hr'
    rw [show i - 1 + 1 = i by omega, f3] at g4
    rw [e1, e2]; exact Option.some.inj g4
  · rw [hc, adjO_0] at f3 f4
    rw [e1, ← Option.some.inj f3, ← Option.some.inj f4]; omega
  · have hd := adj_day (dat_day h hK (cut_le s K) (i := i + 1) (by omega)) f4
    have := (add_cnt s.lag.toNat _ _ hd (f6 hl)).2.2.1 (by omega)
    rw [e1]; omega

/-- What the law has at hand. -/
structure EndH (s : Spc) (l : List Int) (N : Nat) (rs : List Per) (F : Int) : Prop where
  len : l.length = N + 1
  pos : 0 < N
  top : N ≤ 1200
  fst : l.getD 0 0 = s.st
  lst : l.getD N 0 = s.en
  up : ∀ i < N, l.getD i 0 < l.getD (i + 1) 0
  kind : (F = 51 ∧ rs = []) ∨ (F = 0 ∧ rs.length = N ∧ ∀ i < N, PerFit l s.conv s.lag rs i)
  lag : 0 ≤ s.lag

set_option maxRecDepth 10000 in
set_option maxHeartbeats 3200000 in
theorem schedEnds_great (s : Spc) (W : Int) (p : Option Addr) (Nr c : Nat) (w : World) (h1 : 8 < Nr) (h2 : Nr ≤ 9223372036854775807) :
    Calls Try.prog 7 #[.agg #[.int .i64 s.st, .int .i64 s.en, .int .i64 s.n, .int .i64 s.unit, .int .i64 s.stub, .int .i64 s.roll, .int .i64 s.conv, .int .i64 s.lag, .int .i64 W, .slice p Nr c]] w fun e w' => e = .returned (.bool true) ∧ Below w.heap.size w w' := by
  have HB0 := hideS (SBox.zero w s W (.slice p Nr c))
  have HSm := hideS (fun wx => small_many s W p Nr c wx h1 h2)
  obtain ⟨st, en, n, unit, stub, roll, conv, lag⟩ := s
  dsimp only at *
  go_enter Try.func7, Try.ntmps7
  go_wp2_with (first | (go_at_call 18; refine (HSm.out _).mono ?_; rintro e w1 ⟨rfl, hb1⟩) | (go_at_call 9; refine (awake8 _).mono ?_; rintro e w9 ⟨rfl, hb9⟩))
  go_ret
  exact ⟨rfl, ((HB0.out.step hb1).step hb9).below⟩

set_option maxRecDepth 10000 in
set_option maxHeartbeats 3200000 in
theorem schedEnds_wrong (s : Spc) (W E : Int) (p : Option Addr) (Nr c : Nat) (w : World) (hE : E ≠ 0) (HSm : Hid (∀ wx, Below w.heap.size w wx → Calls Try.prog 18 #[.agg #[.int .i64 s.st, .int .i64 s.en, .int .i64 s.n, .int .i64 s.unit, .int .i64 s.stub, .int .i64 s.roll, .int .i64 s.conv, .int .i64 s.lag, .int .i64 W, .slice p Nr c]] wx fun e w' => (∃ b, e = .returned (.bool b)) ∧ Below wx.heap.size wx w')) (HD : Hid (∀ wx, Below w.heap.size w wx → Calls Try.prog 12 #[.agg #[.int .i64 s.st, .int .i64 s.en, .int .i64 s.n, .int .i64 s.unit, .int .i64 s.stub, .int .i64 s.roll, .int .i64 s.conv, .int .i64 s.lag, .int .i64 W, .slice p Nr c]] wx fun e w' => e = .returned (.tuple #[.slice none 0 0, .int .i64 E]) ∧ Below wx.heap.size wx w')) :
    Calls Try.prog 7 #[.agg #[.int .i64 s.st, .int .i64 s.en, .int .i64 s.n, .int .i64 s.unit, .int .i64 s.stub, .int .i64 s.roll, .int .i64 s.conv, .int .i64 s.lag, .int .i64 W, .slice p Nr c]] w fun e w' => e = .returned (.bool true) ∧ Below w.heap.size w w' := by
  have HB0 := hideS (SBox.zero w s W (.slice p Nr c))
  have hE' : (E != 0) = true := bne_iff_ne.2 hE
  clear hE
  obtain ⟨st, en, n, unit, stub, roll, conv, lag⟩ := s
  dsimp only at *
  go_enter Try.func7, Try.ntmps7
  go_wp2_with fail
  refine (HSm.out _ HB0.out.below).mono ?_
  rintro e w1 ⟨⟨bb, rfl⟩, hb1⟩
  have HB1 := hideS (HB0.out.step hb1)
  clear hb1
  obtain ⟨c0, c1, c2, c3, c4, c5, c6, c7, c8, c9⟩ := HB1.out.cells
  cases bb
  · go_wp2_with (go_at_call 9; refine (awake8 _).mono ?_; rintro e w9 ⟨rfl, hb9⟩)
    go_ret
    exact ⟨rfl, (HB1.out.step hb9).below⟩
  go_wp2_with fail
  refine (HD.out _ HB1.out.below).mono ?_
  rintro e w2 ⟨rfl, hb2⟩
  have HB2 := hideS (HB1.out.step hb2)
  clear hb2
  go_wp2_with (go_at_call 9; refine (awake8 _).mono ?_; rintro e w9 ⟨rfl, hb9⟩)
  go_ret
  exact ⟨rfl, (HB2.out.step hb9).below⟩

set_option maxRecDepth 10000 in
set_option maxHeartbeats 16000000 in
theorem schedEnds_go (s : Spc) (W F : Int) (p : Option Addr) (Nr c N : Nat) (l : List Int) (rs : List Per) (w : World) (H : EndH s l N rs F) (HSm : Hid (∀ wx, Below w.heap.size w wx → Calls Try.prog 18 #[.agg #[.int .i64 s.st, .int .i64 s.en, .int .i64 s.n, .int .i64 s.unit, .int .i64 s.stub, .int .i64 s.roll, .int .i64 s.conv, .int .i64 s.lag, .int .i64 W, .slice p Nr c]] wx fun e w' => (∃ b, e = .returned (.bool b)) ∧ Below wx.heap.size wx w')) (HD : Hid (∀ wx, Below w.heap.size w wx → Calls Try.prog 12 #[.agg #[.int .i64 s.st, .int .i64 s.en, .int .i64 s.n, .int .i64 s.unit, .int .i64 s.stub, .int .i64 s.roll, .int .i64 s.conv, .int .i64 s.lag, .int .i64 W, .slice p Nr c]] wx fun e w' => IntsOut l 0 wx e w' ∧ Below wx.heap.size wx w')) (HP : Hid (∀ wx, Below w.heap.size w wx → Calls Try.prog 13 #[.agg #[.int .i64 s.st, .int .i64 s.en, .int .i64 s.n, .int .i64 s.unit, .int .i64 s.stub, .int .i64 s.roll, .int .i64 s.conv, .int .i64 s.lag, .int .i64 W, .slice p Nr c]] wx fun e w' => PersOut rs F wx e w' ∧ Below wx.heap.size wx w')) :
    Calls Try.prog 7 #[.agg #[.int .i64 s.st, .int .i64 s.en, .int .i64 s.n, .int .i64 s.unit, .int .i64 s.stub, .int .i64 s.roll, .int .i64 s.conv, .int .i64 s.lag, .int .i64 W, .slice p Nr c]] w fun e w' => e = .returned (.bool true) ∧ Below w.heap.size w w' := by
  have HB0 := hideS (SBox.zero w s W (.slice p Nr c))
  obtain ⟨hlen, hpos, htop, hfst, hlst, hup, hkind, hlag⟩ := H
  have HLen := hideS hlen
  have HFst := hideS hfst
  have HLst := hideS hlst
  have HUp := hideS hup
  have HKd := hideS hkind
  unfold IntsOut at HD
  unfold PersOut at HP
  rw [hlen] at HD
  clear hlen hfst hlst hup hkind
  obtain ⟨st, en, n, unit, stub, roll, conv, lag⟩ := s
  dsimp only at *
  go_enter Try.func7, Try.ntmps7
  go_wp2_with fail
  refine (HSm.out _ HB0.out.below).mono ?_
  rintro e w1 ⟨⟨bb, rfl⟩, hb1⟩
  have HB1 := hideS (HB0.out.step hb1)
  clear hb1
  obtain ⟨c0, c1, c2, c3, c4, c5, c6, c7, c8, c9⟩ := HB1.out.cells
  cases bb
  · go_wp2_with (go_at_call 9; refine (awake8 _).mono ?_; rintro e w9 ⟨rfl, hb9⟩)
    go_ret
    exact ⟨rfl, (HB1.out.step hb9).below⟩
  go_wp2_with fail
  refine (HD.out _ HB1.out.below).mono ?_
  rintro e w2 ⟨⟨q, g, k1, rfl, hs, hk1, _⟩, hb2⟩
  have hq := hs.at_ (by have := HLen.out; omega)
  subst hq
  have HB2 := hideS (HB1.out.step hb2)
  have HS2 := hideS hs
  clear hb2 c0 c1 c2 c3 c4 c5 c6 c7 c8 c9
  obtain ⟨c0, c1, c2, c3, c4, c5, c6, c7, c8, c9⟩ := HB2.out.cells
  have hq0 := hs.cell 0 (by have := HLen.out; omega)
  have hqN := hs.cell N (by have := HLen.out; omega)
  rw [Nat.zero_add, HFst.out] at hq0
  rw [Nat.zero_add, HLst.out] at hqN
  clear hs
  have t1 : decide ((N : Int) + 1 < 2) = false := decide_eq_false (by omega)
  have t2 : decide ((1201 : Int) < (N : Int) + 1) = false := decide_eq_false (by omega)
  have t3 : ((N + 1 : Nat) : Int) - 1 = (N : Int) := by omega
  have t4 : (N : Int) + 1 - 1 = (N : Int) := by omega
  go_wp2_with fail
  go_region
  have HB3 := hideS (HB2.out.step (Below.refl _ w2).drew)
  have HS3 := hideS (HS2.out.below (Below.refl _ w2).drew)
  clear hq0 hqN t1 t2 t3 t4 c0 c1 c2 c3 c4 c5 c6 c7 c8 c9
  go_wp2_with fail
  go_loopw [5] (fun t wr => ∃ (i : Nat), 1 ≤ i ∧ i ≤ N + 1 ∧ t = .int .i64 (i : Int) ∧ Hid (SBox w ⟨st, en, n, unit, stub, roll, conv, lag⟩ W (.slice p Nr c) wr) ∧ Hid (ISrc wr (some ⟨g, 0, none⟩) g 0 l)) (fun t _ => N + 1 - (intOf t).toNat)
  case atStart => exact ⟨1, by omega, by omega, rfl, HB3, HS3⟩
  case round =>
    clear HB3 HS3 HB2 HS2 HB1 HB0
    obtain ⟨i, i0, i1, rfl, HB, HS⟩ := hrel
    by_cases hlt : i ≤ N
    · have hi : decide ((i : Int) < (N : Int) + 1) = true := decide_eq_true (by omega)
      obtain ⟨j, hj⟩ : ∃ j : Nat, i = j + 1 := ⟨i - 1, by omega⟩
      have hx := HS.out.cell i (by have := HLen.out; omega)
      have hy := HS.out.cell j (by have := HLen.out; omega)
      have hu := HUp.out j (by omega)
      rw [← hj] at hu
      rw [Nat.zero_add] at hx hy
      generalize l.getD i 0 = x at hx hu
      generalize l.getD j 0 = y at hy hu
      have hxy : decide (x ≤ y) = false := decide_eq_false (by omega)
      have hij : (i : Int) - 1 = (j : Int) := by omega
      have hwr : IntKind.i64.wrap ((i : Int) - 1) = (j : Int) := by rw [IntKind.wrap_i64]; omega
      have hi2 : (i : Int) < ((N + 1 : Nat) : Int) := by omega
      have hj2 : (j : Int) < ((N + 1 : Nat) : Int) := by omega
      clear hj hu
      go_wp2_with fail
      go_region
      have HB4 := hideS (HB.out.step (Below.refl _ wr).drew)
      have HS4 := hideS (HS.out.below (Below.refl _ wr).drew)
      go_wp2_with fail
      go_roundw
      case rel => exact ⟨i + 1, by omega, by omega, by go_num, HB4, HS4⟩
      case measure => simp [intOf]; omega
    · have hiN : i = N + 1 := by omega
      have hi : decide ((i : Int) < (N : Int) + 1) = false := decide_eq_false (by omega)
      clear hiN
      obtain ⟨c0, c1, c2, c3, c4, c5, c6, c7, c8, c9⟩ := HB.out.cells
      rcases HKd.out with ⟨rfl, hrs⟩ | ⟨rfl, hrl, hfit⟩
      · subst hrs
        go_wp2_with fail
        refine (HP.out _ HB.out.below).mono ?_
        rintro e w5 ⟨⟨q5, g5, k5, rfl, hs5, hk5, _⟩, hb5⟩
        have HB5 := hideS (HB.out.step hb5)
        clear hb5 hs5
        go_wp2_with (go_at_call 9; refine (awake8 _).mono ?_; rintro e w9 ⟨rfl, hb9⟩)
        go_ret
        exact ⟨rfl, (HB5.out.step hb9).below⟩
      · rw [hrl] at HP
        have HFit := hideS hfit
        have HRl := hideS hrl
        clear hfit hrl
        go_wp2_with fail
        refine (HP.out _ HB.out.below).mono ?_
        rintro e w5 ⟨⟨q5, g5, k5, rfl, hs5, hk5, _⟩, hb5⟩
        have hq5 := hs5.at_ (by have := HRl.out; omega)
        subst hq5
        have HB5 := hideS (HB.out.step hb5)
        have HS5 := hideS (HS.out.below hb5)
        have HP5 := hideS hs5
        clear hb5 hs5 c0 c1 c2 c3 c4 c5 c6 c7 c8 c9 HB HS
        have t5 : ((N : Int) != (N : Int) + 1 - 1) = false := by simp
        have t6 : (N : Int) + 1 - 1 = (N : Int) := by omega
        go_wp2_with fail
        go_loopw [8] (fun t wr => ∃ (m : Nat), m ≤ N ∧ t = .int .i64 (m : Int) ∧ Hid (SBox w ⟨st, en, n, unit, stub, roll, conv, lag⟩ W (.slice p Nr c) wr) ∧ Hid (ISrc wr (some ⟨g, 0, none⟩) g 0 l) ∧ Hid (PSrc wr (some ⟨g5, 0, none⟩) g5 0 rs)) (fun t _ => N - (intOf t).toNat)
        case atStart => exact ⟨0, by omega, rfl, HB5, HS5, HP5⟩
        case round =>
          clear HB5 HS5 HP5 t5 t6
          obtain ⟨m, hm, rfl, HB, HS, HPs⟩ := hrel
          by_cases hlt : m < N
          · have him : decide ((m : Int) < (N : Int)) = true := decide_eq_true (by omega)
            have hf := HFit.out m hlt
            have hx0 := HS.out.cell m (by have := HLen.out; omega)
            have hx1 := HS.out.cell (m + 1) (by have := HLen.out; omega)
            have hpc := HPs.out.cell m (by have := HRl.out; omega)
            have hpv : 0 < m → wr.cell? ⟨g5, (m - 1) * 5 + 3, none⟩ = some (.int .i64 (rs.getD m per0).st) := fun h0 => by
              have := (HPs.out.cell (m - 1) (by have := HRl.out; omega)).c3
              rw [Nat.zero_add, ← hf.st h0] at this
              exact this
            obtain ⟨r0, r1, r2, r3, r4⟩ := hpc
            rw [Nat.zero_add] at hx0 hx1 r0 r1 r2 r3 r4
            rw [Nat.add_zero] at r0
            rw [hf.fr] at r0
            rw [hf.to] at r1
            have hse := hf.se
            have hp0 := hf.p0
            have hp1 := hf.p1
            clear hf
            generalize l.getD m 0 = a at *
            generalize l.getD (m + 1) 0 = b at *
            generalize (rs.getD m per0).st = x at *
            generalize (rs.getD m per0).en = y at *
            generalize (rs.getD m per0).pay = z at *
            have hwm : IntKind.i64.wrap ((m : Int) + 1) = (m : Int) + 1 := by rw [IntKind.wrap_i64]; omega
            have htm : ((m : Int) + 1).toNat = m + 1 := by omega
            have hi2 : (m : Int) < ((N + 1 : Nat) : Int) := by omega
            have hi3 : (m : Int) + 1 < ((N + 1 : Nat) : Int) := by omega
            have hi4 : (m : Int) < (N : Int) := by omega
            have hi5 : (m : Int) < (N : Int) + 1 := by omega
            have hi6 : (m : Int) + 1 < (N : Int) + 1 := by omega
            have hi7 : (0 : Int) ≤ (m : Int) + 1 := by omega
            have cm : (decide ((0 : Int) < (m : Int)) = false ∧ decide (0 < m) = false) ∨ (∃ j : Nat, decide ((0 : Int) < (m : Int)) = true ∧ decide (0 < m) = true ∧ (m : Int) - 1 = (j : Int) ∧ IntKind.i64.wrap ((m : Int) - 1) = (j : Int) ∧ (j : Int) < (N : Int) ∧ wr.cell? ⟨g5, j * 5 + 3, none⟩ = some (.int .i64 x)) := by
              by_cases h0 : 0 < m
              · exact Or.inr ⟨m - 1, decide_eq_true (by omega), decide_eq_true h0, by omega, by rw [IntKind.wrap_i64]; omega, by omega, hpv h0⟩
              · exact Or.inl ⟨decide_eq_false (by omega), decide_eq_false h0⟩
            have cg : (decide (y < x) = false) ∨ (decide (y < x) = true ∧ (conv == 0) = false) := by
              by_cases h0 : y < x
              · exact Or.inr ⟨decide_eq_true h0, beq_eq_false_iff_ne.2 (fun hc => hse hc h0)⟩
              · exact Or.inl (decide_eq_false h0)
            have cl : ((lag == 0) = true ∧ z = y ∧ decide (0 < lag) = false) ∨ ((lag == 0) = false ∧ decide (0 < lag) = true ∧ decide (z ≤ y) = false) := by
              by_cases h0 : lag = 0
              · exact Or.inl ⟨beq_iff_eq.2 h0, hp0 h0, decide_eq_false (by omega)⟩
              · exact Or.inr ⟨beq_eq_false_iff_ne.2 h0, decide_eq_true (by omega), decide_eq_false (hp1 (by omega))⟩
            obtain ⟨c0, c1, c2, c3, c4, c5, c6, c7, c8, c9⟩ := HB.out.cells
            clear hse hp0 hp1 hpv hlag
            rcases cm with ⟨cm, cn⟩ | ⟨j, cm, cn, hj1, hj2, hj3, hj4⟩
            all_goals rcases cg with cg | ⟨cg, cv⟩
            all_goals rcases cl with ⟨cl, rfl, cp⟩ | ⟨cl, cp, cz⟩
            all_goals
              go_wp2_with fail
              go_region
              have HB4 := hideS (HB.out.step (Below.refl _ wr).drew)
              have HS4 := hideS (HS.out.below (Below.refl _ wr).drew)
              have HP4 := hideS (HPs.out.below (Below.refl _ wr).drew)
              go_wp2_with fail
              go_roundw
              case rel => exact ⟨m + 1, by omega, by go_num, HB4, HS4, HP4⟩
              case measure => simp [intOf]; omega
          · have hmN : m = N := by omega
            have him : decide ((m : Int) < (N : Int)) = false := decide_eq_false (by omega)
            go_wp2_with (go_at_call 9; refine (awake8 _).mono ?_; rintro e w9 ⟨rfl, hb9⟩)
            go_ret
            exact ⟨rfl, (HB.out.step hb9).below⟩

theorem schedEnds_walk (s : Spc) (W : Int) (p : Option Addr) (b off c : Nat) (rs : List Rul) (w : World) (hs : RSrc w p b off rs) (hl : rs.length ≤ 9223372036854775807) (hI : SpcI s) (_ : I64 W) (_ : ∀ r ∈ rs, RulI r) :
    Calls Try.prog 7 #[.agg #[.int .i64 s.st, .int .i64 s.en, .int .i64 s.n, .int .i64 s.unit, .int .i64 s.stub, .int .i64 s.roll, .int .i64 s.conv, .int .i64 s.lag, .int .i64 W, .slice p rs.length c]] w fun e w' => e = .returned (.bool true) ∧ Below w.heap.size w w' := by
  by_cases h8 : rs.length ≤ 8
  · have HSm : ∀ wx, Below w.heap.size w wx → Calls Try.prog 18 #[.agg #[.int .i64 s.st, .int .i64 s.en, .int .i64 s.n, .int .i64 s.unit, .int .i64 s.stub, .int .i64 s.roll, .int .i64 s.conv, .int .i64 s.lag, .int .i64 W, .slice p rs.length c]] wx fun e w' => (∃ b, e = .returned (.bool b)) ∧ Below wx.heap.size wx w' := fun wx _ => small_few s W p rs.length c wx h8 hI.n.2
    obtain ⟨A, B, hA⟩ := chk_ex W rs
    obtain ⟨E, hE⟩ := spc_ex s A
    by_cases h0 : E = 0
    · subst h0
      obtain ⟨hok, rfl⟩ := spc_ok hE
      obtain ⟨hC, _⟩ := chk_ok hA
      obtain ⟨K, hK⟩ := dat_ex hok
      by_cases hm : K < 1200
      · have hcu := cut_le s K
        have HD : ∀ wx, Below w.heap.size w wx → Calls Try.prog 12 #[.agg #[.int .i64 s.st, .int .i64 s.en, .int .i64 s.n, .int .i64 s.unit, .int .i64 s.stub, .int .i64 s.roll, .int .i64 s.conv, .int .i64 s.lag, .int .i64 W, .slice p rs.length c]] wx fun e w' => IntsOut (datL s (cutN s K)) 0 wx e w' ∧ Below wx.heap.size wx w' := fun wx hb => (schDates_yes s W K p b off c rs wx hok hC hK (hs.below hb)).mono fun e w' ⟨a, b⟩ => ⟨by have := ints_of a; rw [if_pos hm, if_pos hm] at this; exact this, b⟩
        have base : ∀ (ps : List Per) (F : Int), ((F = 51 ∧ ps = []) ∨ (F = 0 ∧ ps.length = cutN s K + 1 ∧ ∀ i < cutN s K + 1, PerFit (datL s (cutN s K)) s.conv s.lag ps i)) → EndH s (datL s (cutN s K)) (cutN s K + 1) ps F := fun ps F hk =>
          ⟨by rw [dat_len], by omega, by omega, dat_first s _, dat_last s _, fun i hi => dat_lt hok hK hcu (by omega), hk, hok.l1⟩
        by_cases ha : ∀ j < cutN s K + 1, (perI (opB W rs) s (datL s (cutN s K)) j).isSome = true
        · refine schedEnds_go s W 0 p rs.length c (cutN s K + 1) _ (perL (opB W rs) s (datL s (cutN s K)) (cutN s K + 1)) w (base _ 0 (Or.inr ⟨rfl, perL_len _ _ _ _, fun i hi => per_fit hok hK ha hi⟩)) HSm HD (fun wx hb => (schPeriods_yes s W K p b off c rs wx hok hC hK (hs.below hb)).mono fun e w' ⟨a, b⟩ => ⟨?_, b⟩)
          have := pers_of a
          rw [if_pos ⟨hm, ha⟩, if_pos hm, if_pos ha] at this
          exact this
        · refine schedEnds_go s W 51 p rs.length c (cutN s K + 1) _ [] w (base _ 51 (Or.inl ⟨rfl, rfl⟩)) HSm HD (fun wx hb => (schPeriods_yes s W K p b off c rs wx hok hC hK (hs.below hb)).mono fun e w' ⟨a, b⟩ => ⟨?_, b⟩)
          have := pers_of a
          rw [if_neg (fun h => ha h.2), if_pos hm, if_neg ha] at this
          exact this
      · refine schedEnds_wrong s W 81 p rs.length c w (by decide) HSm (fun wx hb => (schDates_yes s W K p b off c rs wx hok hC hK (hs.below hb)).mono fun e w' ⟨a, b⟩ => ⟨?_, b⟩)
        rcases a with ⟨_, a⟩ | ⟨a, _⟩
        · exact a
        · omega
    · exact schedEnds_wrong s W E p rs.length c w h0 HSm (fun wx hb => schDates_no s W A B E p b off c rs wx hA hE h0 (hs.below hb) hl)
  · exact schedEnds_great s W p rs.length c w (by omega) hl
end Go.Proofs.Ythfipkcpajaifaa
