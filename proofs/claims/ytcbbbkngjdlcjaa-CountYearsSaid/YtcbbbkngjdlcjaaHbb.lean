/- The contracts of the document's off, moved and nth. The contract of the document's day. -/
import Derived.Test.YtcbbbkngjdlcjaaHav
import Derived.Test.YtcbbbkngjdlcjaaHba
import Derived.Test.YtcbbbkngjdlcjaaHax
import Derived.Laws.BitsAllLaws
import Derived.Laws.Bits64b
namespace Go.Proofs.Ytcbbbkngjdlcjaa
open Go.RowKit

theorem and_one (n : Int) : bits .and .i64 n 1 = n % 2 := by
  have h1 : (BitVec.ofInt 64 1).toNat = 2 ^ 1 - 1 := by decide
  have key : (BitVec.ofInt 64 n &&& BitVec.ofInt 64 1).toNat = (n % ((2 ^ 64 : Nat) : Int)).toNat % 2 ^ 1 := by
    rw [BitVec.toNat_and, BitVec.toNat_ofInt, h1, Nat.and_two_pow_sub_one_eq_mod]
  show IntKind.i64.wrap ((BitVec.ofInt 64 n &&& BitVec.ofInt 64 1).toNat : Nat) = n % 2
  rw [key, IntKind.wrap_i64]
  omega
theorem tmod7 (n : Int) : ∃ a, n.tmod 7 = a ∧ -6 ≤ a ∧ a ≤ 6 ∧ (a + 7) % 7 = n % 7 := by
  rcases Int.le_total 0 n with h | h
  · exact ⟨n % 7, Int.tmod_eq_emod_of_nonneg h, by omega, by omega, by omega⟩
  · refine ⟨-((-n) % 7), ?_, by omega, by omega, by omega⟩
    have e := Int.neg_tmod (-n) 7
    rw [Int.neg_neg] at e
    rw [e, Int.tmod_eq_emod_of_nonneg (by omega)]

def calV (W : Int) (v : Value) : Value := .agg #[.int .i64 W, v]

set_option maxHeartbeats 400000 in
theorem refOff_any (W n : Int) (v : Value) (w : World) :
    Calls Try.prog 49 #[.agg #[.int .i64 W, v], .int .i64 n] w fun e w' => e = .returned (.bool (offB W n)) ∧ Below w.heap.size w w' := by
  obtain ⟨a, ha, a0, a1, hak0⟩ := tmod7 n
  obtain ⟨k, hk⟩ : ∃ k : Nat, n % 7 = k := ⟨(n % 7).toNat, by omega⟩
  have hak : (a + 7) % 7 = (k : Int) := by omega
  have hk6 : k ≤ 6 := by omega
  have hand := and_one (W / 2 ^ k)
  unfold offB
  rw [hk]
  have HE : Hid ((W / ((2 ^ (((k : Nat) : Int)).toNat : Nat) : Int) % 2 == 1) = (W / 2 ^ k % 2 == 1)) := by
    show _ = _
    rw [Int.toNat_natCast, Int.natCast_pow]; rfl
  clear hak0 hk
  rw [HE.out]
  clear HE
  go_enter Try.func49, Try.ntmps49
  go_wp2_with fail
  go_ret
  exact ⟨rfl, (Below.refl w.heap.size w).alloc (Nat.le_refl _) _⟩

theorem cal_cells {w w1 : World} {W : Int} {v : Value} (hb : Below (w.heap.size + 1) (w.alloc (.cells #[.int .i64 W, v] 24)) w1) :
    w1.cell? ⟨w.heap.size, 0, none⟩ = some (.int .i64 W) ∧ w1.cell? ⟨w.heap.size, 1, none⟩ = some v := by
  refine ⟨?_, ?_⟩
  · rw [hb.cell (p := ⟨w.heap.size, 0, none⟩) (by simp)]; simp
  · rw [hb.cell (p := ⟨w.heap.size, 1, none⟩) (by simp)]; simp

/-- A box with a calendar in it stands at the call's first block. -/
def CBox (w : World) (W : Int) (v : Value) (wr : World) : Prop := Below (w.heap.size + 1) (w.alloc (.cells #[.int .i64 W, v] 24)) wr
theorem CBox.step {w wr w' : World} {W : Int} {v : Value} (h : CBox w W v wr) (hb : Below wr.heap.size wr w') : CBox w W v w' :=
  h.trans (hb.mono (by have := h.size; simp at this; omega))
theorem CBox.below {w wr : World} {W : Int} {v : Value} (h : CBox w W v wr) : Below w.heap.size w wr :=
  ((Below.refl w.heap.size w).alloc (Nat.le_refl _) _).trans (h.mono (by omega))
theorem CBox.first {w w' : World} {W : Int} {v : Value} (hb : Below (w.alloc (.cells #[.int .i64 W, v] 24)).heap.size (w.alloc (.cells #[.int .i64 W, v] 24)) w') : CBox w W v w' :=
  hb.mono (by simp)
theorem mov_cases {n mv : Int} {u d : Nat} {R : Int} (h : (if mv = 2 ∧ (d : Int) < u then n - d else n + u) = R) : (mv = 2 ∧ (d : Int) < u ∧ n - d = R) ∨ (mv = 2 ∧ ¬ (d : Int) < u ∧ n + u = R) ∨ (mv ≠ 2 ∧ n + u = R) := by
  by_cases a : mv = 2
  · by_cases b : (d : Int) < u
    · rw [if_pos ⟨a, b⟩] at h; exact Or.inl ⟨a, b, h⟩
    · rw [if_neg (fun c => b c.2)] at h; exact Or.inr (Or.inl ⟨a, b, h⟩)
  · rw [if_neg (fun c => a c.1)] at h; exact Or.inr (Or.inr ⟨a, h⟩)

set_option maxHeartbeats 1600000 in
theorem refMoved_any (W n mv : Int) (v : Value) (u d : Nat) (w : World) (n0 : -500000 ≤ n) (n1 : n ≤ 500000) (hu : Ups W n u d) :
    Calls Try.prog 79 #[.agg #[.int .i64 W, v], .int .i64 n, .int .i64 mv] w fun e w' => e = .returned (.int .i64 (movI W n mv u d)) ∧ Below w.heap.size w w' := by
  have HO := hideS (fun (k : Int) (wx : World) => refOff_any W k v wx)
  have HU := hideS hu
  have u6 := hu.ub
  have d6 := hu.db
  obtain ⟨R, hR⟩ : ∃ R, movI W n mv u d = R := ⟨_, rfl⟩
  rw [hR]
  have HR := hideS hR
  clear hR hu
  by_cases hz : mv = 0
  · have HE : Hid (n = R) := by
      show _ = _
      rw [← HR.out]; unfold movI; rw [if_pos (Or.inl hz)]
    go_enter Try.func79, Try.ntmps79
    go_wp2_with fail
    go_ret
    obtain rfl := HE.out
    exact ⟨rfl, (Below.refl w.heap.size w).alloc (Nat.le_refl _) _⟩
  · have hz' : (mv == 0) = false := by rw [beq_eq_false_iff_ne]; exact hz
    have HOn := hideS (fun wx => HO.out n wx)
    cases ho : offB W n
    · rw [ho] at HOn
      have HE : Hid (n = R) := by
        show _ = _
        rw [← HR.out]; unfold movI; rw [if_pos (Or.inr ho)]
      clear hz
      go_enter Try.func79, Try.ntmps79
      go_wp2_with (go_at_call 49; refine (HOn.out _).mono ?_; rintro e w1 ⟨rfl, hb1⟩)
      go_ret
      obtain rfl := HE.out
      exact ⟨rfl, ((Below.refl w.heap.size w).alloc (Nat.le_refl _) _).trans (hb1.mono (by simp))⟩
    · rw [ho] at HOn
      have HE : Hid ((if mv = 2 ∧ (d : Int) < u then n - d else n + u) = R) := by
        show _ = _
        rw [← HR.out]
        show _ = if mv = 0 ∨ offB W n = false then n else _
        rw [if_neg (show ¬ (mv = 0 ∨ offB W n = false) from fun a => by
          rcases a with a | a
          · exact hz a
          · rw [ho] at a; exact Bool.noConfusion a)]
      clear hz ho HR
      go_enter Try.func79, Try.ntmps79
      go_wp2_with (go_at_call 49; refine (HOn.out _).mono ?_; rintro e w1 ⟨rfl, hb1⟩; have HB1 := hideS (CBox.first hb1); clear hb1)
      go_loopw [7] (fun i wr => ∃ (j : Nat) (I : Int), j ≤ u ∧ n ≤ I ∧ I ≤ n + 6 ∧ i = .int .i64 I ∧ Hid (I = n + j) ∧ Hid (CBox w W v wr)) (fun i _ => (n + u - intOf i).toNat)
      case atStart => exact ⟨0, n, by omega, by omega, by omega, rfl, by show _ = _; omega, HB1⟩
      case round =>
        obtain ⟨j, I, hj, hI0, hI1, rfl, HI, HB⟩ := hrel
        obtain ⟨c0, c1⟩ := cal_cells HB.out
        have HOi := hideS (fun wx => HO.out I wx)
        by_cases hlt : j < u
        · have e1 : offB W I = true := by rw [HI.out]; exact HU.out.uo j hlt
          rw [e1] at HOi
          have HIl : Hid (I < n + u) := by have := HI.out; show _ < _; omega
          clear e1
          go_wp2_with (go_at_call 49; refine (HOi.out _).mono ?_; rintro e w2 ⟨rfl, hb2⟩; have HB2 := hideS (HB.out.step hb2); clear hb2)
          go_roundw
          case rel => exact ⟨j + 1, I + 1, by omega, by omega, by have := HIl.out; omega, rfl, by have := HI.out; show _ = _; omega, HB2⟩
          case measure => have := HIl.out; simp [intOf]; omega
        · have hju : j = u := by omega
          have e1 : offB W I = false := by rw [HI.out, hju]; exact HU.out.uf
          rw [e1] at HOi
          have HIu : Hid (I = n + u) := by have := HI.out; show _ = _; omega
          clear e1 hju hlt hj HI HB1
          go_wp2_with (go_at_call 49; refine (HOi.out _).mono ?_; rintro e w2 ⟨rfl, hb2⟩; have HB2 := hideS (HB.out.step hb2); clear hb2)
          go_loopw [8] (fun i wr => ∃ (j : Nat) (K : Int), j ≤ d ∧ n - 6 ≤ K ∧ K ≤ n ∧ i = .int .i64 K ∧ Hid (K = n - j) ∧ Hid (CBox w W v wr)) (fun i _ => (intOf i - (n - d)).toNat)
          case atStart => exact ⟨0, n, by omega, by omega, by omega, rfl, by show _ = _; omega, HB2⟩
          case round =>
            clear c0 c1 HB HB2 HOi
            obtain ⟨j, K, hj, hK0, hK1, rfl, HK, HB⟩ := hrel
            obtain ⟨c0, c1⟩ := cal_cells HB.out
            have HOi := hideS (fun wx => HO.out K wx)
            by_cases hlt : j < d
            · have e1 : offB W K = true := by rw [HK.out]; exact HU.out.dn j hlt
              rw [e1] at HOi
              have HKl : Hid (n - d < K) := by have := HK.out; show _ < _; omega
              clear e1
              go_wp2_with (go_at_call 49; refine (HOi.out _).mono ?_; rintro e w2 ⟨rfl, hb2⟩; have HB2 := hideS (HB.out.step hb2); clear hb2)
              go_roundw
              case rel => exact ⟨j + 1, K - 1, by omega, by have := HKl.out; omega, by omega, rfl, by have := HK.out; show _ = _; omega, HB2⟩
              case measure => have := HKl.out; simp [intOf]; omega
            · have hju : j = d := by omega
              have e1 : offB W K = false := by rw [HK.out, hju]; exact HU.out.df
              rw [e1] at HOi
              have HKd : Hid (K = n - d) := by have := HK.out; show _ = _; omega
              clear e1 hju hlt hj HK
              rcases mov_cases HE.out with ⟨a, b, c⟩ | ⟨a, b, c⟩ | ⟨a, c⟩
              · have hlt : n - K < I - n := by have := HKd.out; have := HIu.out; omega
                have HRR : Hid (K = R) := by have := HKd.out; show _ = _; omega
                clear b c HE HKd HIu
                go_wp2_with (go_at_call 49; refine (HOi.out _).mono ?_; rintro e w2 ⟨rfl, hb2⟩; have HB2 := hideS (HB.out.step hb2); clear hb2)
                go_ret
                obtain rfl := HRR.out
                exact ⟨rfl, HB2.out.below⟩
              · have hlt : ¬ n - K < I - n := by have := HKd.out; have := HIu.out; omega
                have HRR : Hid (I = R) := by have := HIu.out; show _ = _; omega
                clear b c HE HKd HIu
                go_wp2_with (go_at_call 49; refine (HOi.out _).mono ?_; rintro e w2 ⟨rfl, hb2⟩; have HB2 := hideS (HB.out.step hb2); clear hb2)
                go_ret
                obtain rfl := HRR.out
                exact ⟨rfl, HB2.out.below⟩
              · have ha : (mv == 2) = false := by rw [beq_eq_false_iff_ne]; exact a
                have HRR : Hid (I = R) := by have := HIu.out; show _ = _; omega
                clear a c HE HKd HIu
                go_wp2_with (go_at_call 49; refine (HOi.out _).mono ?_; rintro e w2 ⟨rfl, hb2⟩; have HB2 := hideS (HB.out.step hb2); clear hb2)
                go_ret
                obtain rfl := HRR.out
                exact ⟨rfl, HB2.out.below⟩

set_option maxHeartbeats 800000 in
theorem refNth_any (y m wd k : Int) (w : World) (h : ymB y m) (d0 : 0 ≤ wd) (d1 : wd ≤ 6) (k1 : 1 ≤ k) (k5 : k ≤ 5) :
    Calls Try.prog 77 #[.int .i64 y, .int .i64 m, .int .i64 wd, .int .i64 k] w fun e w' => e = .returned (.int .i64 (nthI y m wd k)) ∧ w' = w := by
  have HOf := hideS (refOf_ok y m 1 w (okD_first h 1 (by omega) (by omega)))
  have HL := hideS (refLengthP_ok y m w h)
  obtain ⟨f0, f1⟩ := (isD_of (okD_first h 1 (by omega) (by omega))).range
  have l0 := len_lo y m
  have l1 := len_hi y m
  obtain ⟨R, hR⟩ : ∃ R, nthI y m wd k = R := ⟨_, rfl⟩
  rw [hR]
  have HR : Hid ((if k = 5 ∧ dayI y m 1 + lenI y m ≤ dayI y m 1 + (wd - dayI y m 1) % 7 + 7 * (k - 1) then dayI y m 1 + (wd - dayI y m 1) % 7 + 7 * (k - 1) - 7 else dayI y m 1 + (wd - dayI y m 1) % 7 + 7 * (k - 1)) = R) := hR
  clear hR h
  generalize dayI y m 1 = f at *
  generalize lenI y m = L at *
  obtain ⟨t, ht⟩ : ∃ t, (wd - f) % 7 = t := ⟨_, rfl⟩
  rw [ht] at HR
  have HT := hideS ht
  have t0 : 0 ≤ t := by omega
  have t1 : t ≤ 6 := by omega
  clear ht
  go_enter Try.func77, Try.ntmps77
  go_wp2_with (first | (go_at_call 31; refine HOf.out.mono ?_; rintro e w' ⟨rfl, rfl⟩) | (go_at_call 48; refine HL.out.mono ?_; rintro e w' ⟨rfl, rfl⟩))
  clear HOf HL
  go_loop [13] (fun i => ∃ (I : Int), f ≤ I ∧ I ≤ f + t ∧ i = .int .i64 I ∧ Hid ((I + (wd - I) % 7) = f + t)) (fun i => (f + t - intOf i).toNat)
  case atStart => exact ⟨f, by omega, by omega, rfl, by have := HT.out; show _ = _; omega⟩
  case round =>
    obtain ⟨I, hI0, hI1, rfl, HI⟩ := hrel
    by_cases hw : I % 7 = wd
    · have HIt : Hid (I = f + t) := by have := HI.out; show _ = _; omega
      by_cases ha : k = 5
      · by_cases hb : f + L ≤ I + 7 * (k - 1)
        · have HRR : Hid (I + 7 * (k - 1) - 7 = R) := by
            have := HIt.out
            show _ = _
            rw [← HR.out, if_pos ⟨ha, by omega⟩]; omega
          clear HR HI HIt HT
          subst ha
          go_wp2_with fail
          go_ret
          obtain rfl := HRR.out
          exact ⟨rfl, rfl⟩
        · have HRR : Hid (I + 7 * (k - 1) = R) := by
            have := HIt.out
            show _ = _
            rw [← HR.out, if_neg (fun c => hb (by omega))]; omega
          clear HR HI HIt HT
          subst ha
          go_wp2_with fail
          go_ret
          obtain rfl := HRR.out
          exact ⟨rfl, rfl⟩
      · have HRR : Hid (I + 7 * (k - 1) = R) := by
          have := HIt.out
          show _ = _
          rw [← HR.out, if_neg (fun c => ha c.1)]; omega
        have ha' : (k == 5) = false := by rw [beq_eq_false_iff_ne]; exact ha
        clear HR HI HIt HT ha
        go_wp2_with fail
        go_ret
        obtain rfl := HRR.out
        exact ⟨rfl, rfl⟩
    · have HI' : Hid (I + 1 + (wd - (I + 1)) % 7 = f + t) := by have := HI.out; show _ = _; omega
      have hlt : I < f + t := by have := HI.out; omega
      have hw' : (I % 7 != wd) = true := by rw [bne_iff_ne]; exact hw
      clear hw
      go_wp2_with fail
      go_round
      case rel => exact ⟨I + 1, by omega, by omega, rfl, HI'⟩
      case measure => simp [intOf]; omega
end Go.Proofs.Ytcbbbkngjdlcjaa
namespace Go.Proofs.Ytcbbbkngjdlcjaa
open Go.RowKit

theorem day_none {W : Int} {r : Rul} {y : Int} (h : y < r.fr ∨ r.to < y) : dayO W r y = none := by unfold dayO baseO; rw [if_pos h]; rfl

set_option maxHeartbeats 1600000 in
theorem refDay_any (W y : Int) (r : Rul) (v : Value) (w : World) (h0 : 0 ≤ W) (h1 : W ≤ 126) (hf : fitB r = true) (hk : r.kind ≠ 4) :
    Calls Try.prog 67 #[.agg #[.int .i64 W, v], .agg #[.int .i64 r.kind, .int .i64 r.mon, .int .i64 r.day, .int .i64 r.nth, .int .i64 r.wd, .int .i64 r.off, .int .i64 r.fr, .int .i64 r.to, .int .i64 r.mv], .int .i64 y] w fun e w' => e = .returned (.tuple #[.int .i64 ((dayO W r y).getD 0), .bool (dayO W r y).isSome]) ∧ Below w.heap.size w w' := by
  have hb2 : ∀ (o1 o2 : Obj), Below w.heap.size w ((w.alloc o1).alloc o2) := fun o1 o2 => ((Below.refl w.heap.size w).alloc (Nat.le_refl _) _).alloc (by simp) _
  have HB2 := hideS hb2
  clear hb2
  by_cases hy : y < r.fr ∨ r.to < y
  · rw [day_none hy]
    obtain ⟨kind, mon, day, nth, wd, off, fr, to, mv⟩ := r
    dsimp only at *
    rcases (show y < fr ∨ (¬ y < fr ∧ to < y) by omega) with a | ⟨a, b⟩
    all_goals
      clear hy hf hk
      go_enter Try.func67, Try.ntmps67
      go_wp2_with fail
      go_ret2
      exact ⟨rfl, HB2.out _ _⟩
  · rcases fit_cases hf with ⟨a, _⟩ | ⟨⟨f0, f1, f2, v0, v1⟩, hkd⟩
    · exact absurd a hk
    · have y0 : 1900 ≤ y := by omega
      have y1 : y ≤ 2199 := by omega
      have hy1 : ¬ y < r.fr := by omega
      have hy2 : ¬ r.to < y := by omega
      obtain ⟨R, hR⟩ : ∃ R, dayO W r y = R := ⟨_, rfl⟩
      rw [hR]
      have HR := hideS hR
      clear hR
      rcases hkd with ⟨k1, m0, m1, d0, d1⟩ | ⟨k2, m0, m1, w0, w1, c0, c1⟩ | ⟨k3, o0, o1⟩
      · by_cases ho : okD y r.mon r.day
        · obtain ⟨n0, n1⟩ := (isD_of ho).range
          have HO := hideS (fun wx => refOf_ok y r.mon r.day wx ho)
          obtain ⟨u, d, hu⟩ := ups_ex h0 h1 (dayI y r.mon r.day)
          have HM := hideS (fun wx => refMoved_any W (dayI y r.mon r.day) r.mv v u d wx (by omega) (by omega) hu)
          have HE : Hid (some (movI W (dayI y r.mon r.day) r.mv u d) = R) := by
            show _ = R
            rw [← HR.out]
            unfold dayO baseO
            rw [if_neg hy, if_pos k1, if_pos ho, Option.map_some, mv_eq hu]
          generalize movI W (dayI y r.mon r.day) r.mv u d = X at *
          generalize dayI y r.mon r.day = N at *
          obtain ⟨kind, mon, day, nth, wd, off, fr, to, mv⟩ := r
          dsimp only at *
          subst k1
          clear hf hk hy ho hu HR d1
          go_enter Try.func67, Try.ntmps67
          go_wp2_with (first | (go_at_call 31; refine (HO.out _).mono ?_; rintro e w1 ⟨rfl, rfl⟩) | (go_at_call 79; refine (HM.out _).mono ?_; rintro e w1 ⟨rfl, hb1⟩))
          go_ret2
          obtain rfl := HE.out
          exact ⟨rfl, (HB2.out _ _).trans (hb1.mono (by simp; omega))⟩
        · have HO := hideS (fun wx => refOf_bad y r.mon r.day wx ho)
          have HE : Hid (none = R) := by
            show _ = R
            rw [← HR.out]
            unfold dayO baseO
            rw [if_neg hy, if_pos k1, if_neg ho]; rfl
          obtain ⟨kind, mon, day, nth, wd, off, fr, to, mv⟩ := r
          dsimp only at *
          subst k1
          clear hf hk hy ho HR d1
          go_enter Try.func67, Try.ntmps67
          go_wp2_with (go_at_call 31; refine (HO.out _).mono ?_; rintro e w1 ⟨rfl, rfl⟩)
          go_ret2
          obtain rfl := HE.out
          exact ⟨rfl, HB2.out _ _⟩
      · have hym : ymB y r.mon := ⟨y0, y1, m0, m1⟩
        obtain ⟨n0, n1⟩ := nth_rng hym w0 w1 c0 c1
        have HN := hideS (fun wx => refNth_any y r.mon r.wd r.nth wx hym w0 w1 c0 c1)
        obtain ⟨u, d, hu⟩ := ups_ex h0 h1 (nthI y r.mon r.wd r.nth)
        have HM := hideS (fun wx => refMoved_any W (nthI y r.mon r.wd r.nth) r.mv v u d wx (by omega) (by omega) hu)
        have HE : Hid (some (movI W (nthI y r.mon r.wd r.nth) r.mv u d) = R) := by
          show _ = R
          rw [← HR.out]
          unfold dayO baseO
          rw [if_neg hy, if_neg (by omega), if_pos k2, Option.map_some, mv_eq hu]
        generalize movI W (nthI y r.mon r.wd r.nth) r.mv u d = X at *
        generalize nthI y r.mon r.wd r.nth = N at *
        obtain ⟨kind, mon, day, nth, wd, off, fr, to, mv⟩ := r
        dsimp only at *
        subst k2
        clear hf hk hy hym hu HR
        go_enter Try.func67, Try.ntmps67
        go_wp2_with (first | (go_at_call 77; refine (HN.out _).mono ?_; rintro e w1 ⟨rfl, rfl⟩) | (go_at_call 79; refine (HM.out _).mono ?_; rintro e w1 ⟨rfl, hb1⟩))
        go_ret2
        obtain rfl := HE.out
        exact ⟨rfl, (HB2.out _ _).trans (hb1.mono (by simp; omega))⟩
      · obtain ⟨n0, n1⟩ : 0 ≤ eaDay y ∧ eaDay y ≤ 109572 := (isD_of (ea_ok y0 y1).ok).range
        have HN := hideS (fun wx => refEaster_ok y wx y0 y1)
        obtain ⟨u, d, hu⟩ := ups_ex h0 h1 (eaDay y + r.off)
        have HM := hideS (fun wx => refMoved_any W (eaDay y + r.off) r.mv v u d wx (by omega) (by omega) hu)
        have HE : Hid (some (movI W (eaDay y + r.off) r.mv u d) = R) := by
          show _ = R
          rw [← HR.out]
          unfold dayO baseO
          rw [if_neg hy, if_neg (by omega), if_neg (by omega), if_pos k3, Option.map_some, mv_eq hu]
        generalize movI W (eaDay y + r.off) r.mv u d = X at *
        generalize eaDay y = N at *
        obtain ⟨kind, mon, day, nth, wd, off, fr, to, mv⟩ := r
        dsimp only at *
        subst k3
        clear hf hk hy hu HR
        go_enter Try.func67, Try.ntmps67
        go_wp2_with (first | (go_at_call 78; refine (HN.out _).mono ?_; rintro e w1 ⟨rfl, rfl⟩) | (go_at_call 79; refine (HM.out _).mono ?_; rintro e w1 ⟨rfl, hb1⟩))
        go_ret2
        obtain rfl := HE.out
        exact ⟨rfl, (HB2.out _ _).trans (hb1.mono (by simp; omega))⟩
end Go.Proofs.Ytcbbbkngjdlcjaa
