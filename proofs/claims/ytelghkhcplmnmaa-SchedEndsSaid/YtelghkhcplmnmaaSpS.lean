/- The walk of SchedEnds, dates and periods are there. -/
import Derived.Test.YtelghkhcplmnmaaSpR
import Derived.BigQuiet
namespace Go.Proofs.Ytelghkhcplmnmaa
open Go.RowKit

set_option maxRecDepth 10000 in
set_option maxHeartbeats 16000000 in
theorem schedEnds_go (s : Spc) (W F : Int) (p : Option Addr) (Nr c N : Nat) (l : List Int) (rs : List Per) (w : World) (H : EndH s l N rs F) (HSm : Hid (∀ wx, Below w.heap.size w wx → Calls Try.prog 6 #[.agg #[.int .i64 s.st, .int .i64 s.en, .int .i64 s.n, .int .i64 s.unit, .int .i64 s.stub, .int .i64 s.roll, .int .i64 s.conv, .int .i64 s.lag, .int .i64 W, .slice p Nr c]] wx fun e w' => (∃ b, e = .returned (.bool b)) ∧ Below wx.heap.size wx w')) (HD : Hid (∀ wx, Below w.heap.size w wx → Calls Try.prog 8 #[.agg #[.int .i64 s.st, .int .i64 s.en, .int .i64 s.n, .int .i64 s.unit, .int .i64 s.stub, .int .i64 s.roll, .int .i64 s.conv, .int .i64 s.lag, .int .i64 W, .slice p Nr c]] wx fun e w' => IntsOut l 0 wx e w' ∧ Below wx.heap.size wx w')) (HP : Hid (∀ wx, Below w.heap.size w wx → Calls Try.prog 9 #[.agg #[.int .i64 s.st, .int .i64 s.en, .int .i64 s.n, .int .i64 s.unit, .int .i64 s.stub, .int .i64 s.roll, .int .i64 s.conv, .int .i64 s.lag, .int .i64 W, .slice p Nr c]] wx fun e w' => PersOut rs F wx e w' ∧ Below wx.heap.size wx w')) :
    Calls Try.prog 3 #[.agg #[.int .i64 s.st, .int .i64 s.en, .int .i64 s.n, .int .i64 s.unit, .int .i64 s.stub, .int .i64 s.roll, .int .i64 s.conv, .int .i64 s.lag, .int .i64 W, .slice p Nr c]] w fun e w' => e = .returned (.bool true) ∧ Below w.heap.size w w' := by
  have HB0 := hideS (SBox.zero w s W (.slice p Nr c))
  obtain ⟨hlen, hpos, htop, hfst, hlst, hup, hkind, hlag⟩ := H
  have HLen := hideS hlen
  have HFst := hideS hfst
  have HLst := hideS hlst
  have HUp := hideS hup
  have HKd := hideS hkind
  unfold IntsOut at HD
  unfold PersOut at HP
  rw [hlen] at HD
  clear hlen hfst hlst hup hkind
  obtain ⟨st, en, n, unit, stub, roll, conv, lag⟩ := s
  dsimp only at *
  go_enter Try.func3, Try.ntmps3
  go_wp2_with fail
  refine (HSm.out _ HB0.out.below).mono ?_
  rintro e w1 ⟨⟨bb, rfl⟩, hb1⟩
  have HB1 := hideS (HB0.out.step hb1)
  clear hb1
  obtain ⟨c0, c1, c2, c3, c4, c5, c6, c7, c8, c9⟩ := HB1.out.cells
  cases bb
  · go_wp2_with (go_at_call 7; refine (awake8 _).mono ?_; rintro e w9 ⟨rfl, hb9⟩)
    go_ret
    exact ⟨rfl, (HB1.out.step hb9).below⟩
  go_wp2_with fail
  refine (HD.out _ HB1.out.below).mono ?_
  rintro e w2 ⟨⟨q, g, k1, rfl, hs, hk1, _⟩, hb2⟩
  have hq := hs.at_ (by have := HLen.out; omega)
  subst hq
  have HB2 := hideS (HB1.out.step hb2)
  have HS2 := hideS hs
  clear hb2 c0 c1 c2 c3 c4 c5 c6 c7 c8 c9
  obtain ⟨c0, c1, c2, c3, c4, c5, c6, c7, c8, c9⟩ := HB2.out.cells
  have hq0 := hs.cell 0 (by have := HLen.out; omega)
  have hqN := hs.cell N (by have := HLen.out; omega)
  rw [Nat.zero_add, HFst.out] at hq0
  rw [Nat.zero_add, HLst.out] at hqN
  clear hs
  have t1 : decide ((N : Int) + 1 < 2) = false := decide_eq_false (by omega)
  have t2 : decide ((1201 : Int) < (N : Int) + 1) = false := decide_eq_false (by omega)
  have t3 : ((N + 1 : Nat) : Int) - 1 = (N : Int) := by omega
  have t4 : (N : Int) + 1 - 1 = (N : Int) := by omega
  go_wp2_with fail
  go_region
  have HB3 := hideS (HB2.out.step (Below.refl _ w2).drew)
  have HS3 := hideS (HS2.out.below (Below.refl _ w2).drew)
  clear hq0 hqN t1 t2 t3 t4 c0 c1 c2 c3 c4 c5 c6 c7 c8 c9
  go_wp2_with fail
  go_loopw [5] (fun t wr => ∃ (i : Nat), 1 ≤ i ∧ i ≤ N + 1 ∧ t = .int .i64 (i : Int) ∧ Hid (SBox w ⟨st, en, n, unit, stub, roll, conv, lag⟩ W (.slice p Nr c) wr) ∧ Hid (ISrc wr (some ⟨g, 0, none⟩) g 0 l)) (fun t _ => N + 1 - (intOf t).toNat)
  case atStart => exact ⟨1, by omega, by omega, rfl, HB3, HS3⟩
  case round =>
    clear HB3 HS3 HB2 HS2 HB1 HB0
    obtain ⟨i, i0, i1, rfl, HB, HS⟩ := hrel
    by_cases hlt : i ≤ N
    · have hi : decide ((i : Int) < (N : Int) + 1) = true := decide_eq_true (by omega)
      obtain ⟨j, hj⟩ : ∃ j : Nat, i = j + 1 := ⟨i - 1, by omega⟩
      have hx := HS.out.cell i (by have := HLen.out; omega)
      have hy := HS.out.cell j (by have := HLen.out; omega)
      have hu := HUp.out j (by omega)
      rw [← hj] at hu
      rw [Nat.zero_add] at hx hy
      generalize l.getD i 0 = x at hx hu
      generalize l.getD j 0 = y at hy hu
      have hxy : decide (x ≤ y) = false := decide_eq_false (by omega)
      have hij : (i : Int) - 1 = (j : Int) := by omega
      have hwr : IntKind.i64.wrap ((i : Int) - 1) = (j : Int) := by rw [IntKind.wrap_i64]; omega
      have hi2 : (i : Int) < ((N + 1 : Nat) : Int) := by omega
      have hj2 : (j : Int) < ((N + 1 : Nat) : Int) := by omega
      clear hj hu
      go_wp2_with fail
      go_region
      have HB4 := hideS (HB.out.step (Below.refl _ wr).drew)
      have HS4 := hideS (HS.out.below (Below.refl _ wr).drew)
      go_wp2_with fail
      go_roundw
      case rel => exact ⟨i + 1, by omega, by omega, by go_num, HB4, HS4⟩
      case measure => simp [intOf]; omega
    · have hiN : i = N + 1 := by omega
      have hi : decide ((i : Int) < (N : Int) + 1) = false := decide_eq_false (by omega)
      clear hiN
      obtain ⟨c0, c1, c2, c3, c4, c5, c6, c7, c8, c9⟩ := HB.out.cells
      rcases HKd.out with ⟨rfl, hrs⟩ | ⟨rfl, hrl, hfit⟩
      · subst hrs
        go_wp2_with fail
        refine (HP.out _ HB.out.below).mono ?_
        rintro e w5 ⟨⟨q5, g5, k5, rfl, hs5, hk5, _⟩, hb5⟩
        have HB5 := hideS (HB.out.step hb5)
        clear hb5 hs5
        go_wp2_with (go_at_call 7; refine (awake8 _).mono ?_; rintro e w9 ⟨rfl, hb9⟩)
        go_ret
        exact ⟨rfl, (HB5.out.step hb9).below⟩
      · rw [hrl] at HP
        have HFit := hideS hfit
        have HRl := hideS hrl
        clear hfit hrl
        go_wp2_with fail
        refine (HP.out _ HB.out.below).mono ?_
        rintro e w5 ⟨⟨q5, g5, k5, rfl, hs5, hk5, _⟩, hb5⟩
        have hq5 := hs5.at_ (by have := HRl.out; omega)
        subst hq5
        have HB5 := hideS (HB.out.step hb5)
        have HS5 := hideS (HS.out.below hb5)
        have HP5 := hideS hs5
        clear hb5 hs5 c0 c1 c2 c3 c4 c5 c6 c7 c8 c9 HB HS
        have t5 : ((N : Int) != (N : Int) + 1 - 1) = false := by simp
        have t6 : (N : Int) + 1 - 1 = (N : Int) := by omega
        go_wp2_with fail
        go_loopw [8] (fun t wr => ∃ (m : Nat), m ≤ N ∧ t = .int .i64 (m : Int) ∧ Hid (SBox w ⟨st, en, n, unit, stub, roll, conv, lag⟩ W (.slice p Nr c) wr) ∧ Hid (ISrc wr (some ⟨g, 0, none⟩) g 0 l) ∧ Hid (PSrc wr (some ⟨g5, 0, none⟩) g5 0 rs)) (fun t _ => N - (intOf t).toNat)
        case atStart => exact ⟨0, by omega, rfl, HB5, HS5, HP5⟩
        case round =>
          clear HB5 HS5 HP5 t5 t6
          obtain ⟨m, hm, rfl, HB, HS, HPs⟩ := hrel
          by_cases hlt : m < N
          · have him : decide ((m : Int) < (N : Int)) = true := decide_eq_true (by omega)
            have hf := HFit.out m hlt
            have hx0 := HS.out.cell m (by have := HLen.out; omega)
            have hx1 := HS.out.cell (m + 1) (by have := HLen.out; omega)
            have hpc := HPs.out.cell m (by have := HRl.out; omega)
            have hpv : 0 < m → wr.cell? ⟨g5, (m - 1) * 5 + 3, none⟩ = some (.int .i64 (rs.getD m per0).st) := fun h0 => by
              have := (HPs.out.cell (m - 1) (by have := HRl.out; omega)).c3
              rw [Nat.zero_add, ← hf.st h0] at this
              exact this
            obtain ⟨r0, r1, r2, r3, r4⟩ := hpc
            rw [Nat.zero_add] at hx0 hx1 r0 r1 r2 r3 r4
            rw [Nat.add_zero] at r0
            rw [hf.fr] at r0
            rw [hf.to] at r1
            have hse := hf.se
            have hp0 := hf.p0
            have hp1 := hf.p1
            clear hf
            generalize l.getD m 0 = a at *
            generalize l.getD (m + 1) 0 = b at *
            generalize (rs.getD m per0).st = x at *
            generalize (rs.getD m per0).en = y at *
            generalize (rs.getD m per0).pay = z at *
            have hwm : IntKind.i64.wrap ((m : Int) + 1) = (m : Int) + 1 := by rw [IntKind.wrap_i64]; omega
            have htm : ((m : Int) + 1).toNat = m + 1 := by omega
            have hi2 : (m : Int) < ((N + 1 : Nat) : Int) := by omega
            have hi3 : (m : Int) + 1 < ((N + 1 : Nat) : Int) := by omega
            have hi4 : (m : Int) < (N : Int) := by omega
            have hi5 : (m : Int) < (N : Int) + 1 := by omega
            have hi6 : (m : Int) + 1 < (N : Int) + 1 := by omega
            have hi7 : (0 : Int) ≤ (m : Int) + 1 := by omega
            have cm : (decide ((0 : Int) < (m : Int)) = false ∧ decide (0 < m) = false) ∨ (∃ j : Nat, decide ((0 : Int) < (m : Int)) = true ∧ decide (0 < m) = true ∧ (m : Int) - 1 = (j : Int) ∧ IntKind.i64.wrap ((m : Int) - 1) = (j : Int) ∧ (j : Int) < (N : Int) ∧ wr.cell? ⟨g5, j * 5 + 3, none⟩ = some (.int .i64 x)) := by
              by_cases h0 : 0 < m
              · exact Or.inr ⟨m - 1, decide_eq_true (by omega), decide_eq_true h0, by omega, by rw [IntKind.wrap_i64]; omega, by omega, hpv h0⟩
              · exact Or.inl ⟨decide_eq_false (by omega), decide_eq_false h0⟩
            have cg : decide (y < x) = false ∨ (decide (y < x) = true ∧ (conv == 0) = false) := by
              by_cases hc : conv = 0
              · exact Or.inl (decide_eq_false (hse hc))
              · by_cases h : y < x
                · exact Or.inr ⟨decide_eq_true h, beq_eq_false_iff_ne.2 hc⟩
                · exact Or.inl (decide_eq_false h)
            have cl : ((lag == 0) = true ∧ decide (0 < lag) = false ∧ z = y) ∨ ((lag == 0) = false ∧ decide (0 < lag) = true ∧ decide (z ≤ y) = false) := by
              by_cases h : lag = 0
              · exact Or.inl ⟨beq_iff_eq.2 h, decide_eq_false (by omega), hp0 h⟩
              · have h' : 0 < lag := by omega
                exact Or.inr ⟨beq_eq_false_iff_ne.2 h, decide_eq_true h', decide_eq_false (hp1 h')⟩
            obtain ⟨c0, c1, c2, c3, c4, c5, c6, c7, c8, c9⟩ := HB.out.cells
            clear hse hp0 hp1 hpv hlag
            go_wp2_with fail
            refine ends_reg hx0 hx1 r0 r1 r2 r3 r4 c6 c7 hwm htm hi2 hi3 hi4 hi5 hi6 hi7 htop cm cg cl ?_
            intro nq v98 v99 v100 v101 v102 v103 v104 v105 v106 v107 v108 v109 v110 v111 v112 v113 v114 v115 v116 v117 v118 v119 v120 v121 v122 v123 v124 v125 v126 v127 v128 v129 v130 v131 v132 v133 v134 v135 v136 v137 v138 v139 v140 v141 v142 v143 v144 v145 v146 v147 v148 v149 v150 v151 v152 v153 v154 v155 v156 v157 v158 v159 v160 v161 v162 v163 v164 v165 v166 v167 v168 v169 v170 v171 v172 v173 v174 v175 v176 v177 v178 v179 v180 v181 v182 v183 v184 v185 v186 v187 v188 v189 v190 v191
            have hdr : Below wr.heap.size wr (wr.drewN nq) := ⟨rfl, rfl, rfl, Nat.le_refl _, fun _ _ => rfl⟩
            have HB4 := hideS (HB.out.step hdr)
            have HS4 := hideS (HS.out.below hdr)
            have HP4 := hideS (HPs.out.below hdr)
            clear hdr
            go_wp2_with fail
            go_roundw
            case rel => exact ⟨m + 1, by omega, by go_num, HB4, HS4, HP4⟩
            case measure => simp [intOf]; omega
          · have hmN : m = N := by omega
            have him : decide ((m : Int) < (N : Int)) = false := decide_eq_false (by omega)
            go_wp2_with (go_at_call 7; refine (awake8 _).mono ?_; rintro e w9 ⟨rfl, hb9⟩)
            go_ret
            exact ⟨rfl, (HB.out.step hb9).below⟩
end Go.Proofs.Ytelghkhcplmnmaa
