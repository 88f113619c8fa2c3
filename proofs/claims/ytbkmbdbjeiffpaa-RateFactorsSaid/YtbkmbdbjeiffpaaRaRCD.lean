/- The contract of the document's Yield. The contracts of the document's Forward and Convert. -/
import Derived.Test.YtbkmbdbjeiffpaaRaRAB
namespace Go.Proofs.Ytbkmbdbjeiffpaa
open Go.RowKit

/-- May a factor and a time be asked for? -/
def asyB (f t : Int) : Bool := finB f && ltB 0 f && finB t && ltB 0 t && !ltB 4697254411347427328 t
theorem eny_cases (f : Int) : (finB f = false ∧ enyU f = 0 ∧ enyE f = 91) ∨ (finB f = true ∧ enyU f = f ∧ enyE f = 0) := by
  unfold enyU enyE
  cases h : finB f
  · exact Or.inl ⟨rfl, rfl, rfl⟩
  · exact Or.inr ⟨rfl, rfl, rfl⟩

set_option maxHeartbeats 800000 in
theorem refYield_kind (k f t : Int) (w : World) (h : ¬ (1 ≤ k ∧ k ≤ 6)) :
    Calls Try.prog 13 #[.int .i64 k, .int .u64 f, .int .u64 t] w fun e w' => e = .returned (.tuple #[.int .u64 0, .int .i64 90]) ∧ Below w.heap.size w w' := by
  have HK := hideS fun w => refKind_any k w
  rw [decide_eq_false h] at HK
  clear h
  go_enter Try.func13, Try.ntmps13
  go_wp2_with fail
  refine (HK.out _).mono ?_
  rintro e w' ⟨rfl, rfl⟩
  go_wp2_with fail
  go_ret2
  exact ⟨rfl, Below.refl _ _⟩

set_option maxHeartbeats 3200000 in
theorem refYield_bad (k f t : Int) (w : World) (hk : 1 ≤ k ∧ k ≤ 6) (hr : U64 f) (ht : U64 t) (h : asyB f t = false) (HI : Hid (StpI 23 1048576 4697254411347427328)) :
    Calls Try.prog 13 #[.int .i64 k, .int .u64 f, .int .u64 t] w fun e w' => e = .returned (.tuple #[.int .u64 0, .int .i64 91]) ∧ Below w.heap.size w w' := by
  have HK := hideS fun w => refKind_any k w
  rw [decide_eq_true hk] at HK
  have H1 := hideS fun w => refNum_any f w hr
  have H2 := hideS fun w => refAbove_any f w hr
  have H3 := hideS fun w => refNum_any t w ht
  have H4 := hideS fun w => refAbove_any t w ht
  have H5 := hideS fun w => refLong_any t w ht HI
  unfold asyB at h
  generalize finB f = b1 at *
  generalize ltB 0 f = b2 at *
  generalize finB t = b3 at *
  generalize ltB 0 t = b4 at *
  generalize ltB 4697254411347427328 t = b5 at *
  clear hk hr ht HI
  have hc : b1 = false ∨ (b1 = true ∧ b2 = false) ∨ (b1 = true ∧ b2 = true ∧ b3 = false) ∨ (b1 = true ∧ b2 = true ∧ b3 = true ∧ b4 = false) ∨ (b1 = true ∧ b2 = true ∧ b3 = true ∧ b4 = true ∧ b5 = true) := by
    cases b1 <;> cases b2 <;> cases b3 <;> cases b4 <;> cases b5 <;> simp at h ⊢
  clear h
  rcases hc with rfl | ⟨rfl, rfl⟩ | ⟨rfl, rfl, rfl⟩ | ⟨rfl, rfl, rfl, rfl⟩ | ⟨rfl, rfl, rfl, rfl, rfl⟩
  · go_enter Try.func13, Try.ntmps13
    go_wp2_with fail
    refine (HK.out _).mono ?_
    rintro e w' ⟨rfl, rfl⟩
    go_wp2_with fail
    refine (H1.out _).mono ?_
    rintro e w' ⟨rfl, rfl⟩
    go_wp2_with fail
    go_ret2
    exact ⟨rfl, Below.refl _ _⟩
  · go_enter Try.func13, Try.ntmps13
    go_wp2_with fail
    refine (HK.out _).mono ?_
    rintro e w' ⟨rfl, rfl⟩
    go_wp2_with fail
    refine (H1.out _).mono ?_
    rintro e w' ⟨rfl, rfl⟩
    go_wp2_with fail
    refine (H2.out _).mono ?_
    rintro e w' ⟨rfl, rfl⟩
    go_wp2_with fail
    go_ret2
    exact ⟨rfl, Below.refl _ _⟩
  · go_enter Try.func13, Try.ntmps13
    go_wp2_with fail
    refine (HK.out _).mono ?_
    rintro e w' ⟨rfl, rfl⟩
    go_wp2_with fail
    refine (H1.out _).mono ?_
    rintro e w' ⟨rfl, rfl⟩
    go_wp2_with fail
    refine (H2.out _).mono ?_
    rintro e w' ⟨rfl, rfl⟩
    go_wp2_with fail
    refine (H3.out _).mono ?_
    rintro e w' ⟨rfl, rfl⟩
    go_wp2_with fail
    go_ret2
    exact ⟨rfl, Below.refl _ _⟩
  · go_enter Try.func13, Try.ntmps13
    go_wp2_with fail
    refine (HK.out _).mono ?_
    rintro e w' ⟨rfl, rfl⟩
    go_wp2_with fail
    refine (H1.out _).mono ?_
    rintro e w' ⟨rfl, rfl⟩
    go_wp2_with fail
    refine (H2.out _).mono ?_
    rintro e w' ⟨rfl, rfl⟩
    go_wp2_with fail
    refine (H3.out _).mono ?_
    rintro e w' ⟨rfl, rfl⟩
    go_wp2_with fail
    refine (H4.out _).mono ?_
    rintro e w' ⟨rfl, rfl⟩
    go_wp2_with fail
    go_ret2
    exact ⟨rfl, Below.refl _ _⟩
  · go_enter Try.func13, Try.ntmps13
    go_wp2_with fail
    refine (HK.out _).mono ?_
    rintro e w' ⟨rfl, rfl⟩
    go_wp2_with fail
    refine (H1.out _).mono ?_
    rintro e w' ⟨rfl, rfl⟩
    go_wp2_with fail
    refine (H2.out _).mono ?_
    rintro e w' ⟨rfl, rfl⟩
    go_wp2_with fail
    refine (H3.out _).mono ?_
    rintro e w' ⟨rfl, rfl⟩
    go_wp2_with fail
    refine (H4.out _).mono ?_
    rintro e w' ⟨rfl, rfl⟩
    go_wp2_with fail
    refine (H5.out _).mono ?_
    rintro e w1 ⟨rfl, hb⟩
    go_wp2_with fail
    go_ret2
    exact ⟨rfl, hb⟩

set_option maxHeartbeats 6400000 in
theorem refYield_simple (f t mm ln mi q d r : Int) (w : World) (hr : U64 f) (ht : U64 t) (h : asyB f t = true) (HI : Hid (StpI 23 1048576 4697254411347427328)) (HL : Hid (Stp1 31 f ln)) (HF : Hid (Stp1 30 ln mi)) (HM : Hid (StpI 23 0 mm)) (H6 : Hid (Stp2 28 4607182418800017408 f q)) (H7 : Hid (Stp2 36 q 4607182418800017408 d)) (H8 : Hid (Stp2 28 d t r)) (hf : U64 r) :
    Calls Try.prog 13 #[.int .i64 1, .int .u64 f, .int .u64 t] w fun e w' => e = .returned (.tuple #[.int .u64 (enyU r), .int .i64 (enyE r)]) ∧ Below w.heap.size w w' := by
  obtain ⟨k, hk1⟩ : ∃ k : Int, k = 1 := ⟨_, rfl⟩
  have hk : 1 ≤ k ∧ k ≤ 6 := by omega
  have HK := hideS fun w => refKind_any k w
  rw [decide_eq_true hk] at HK
  have H1 := hideS fun w => refNum_any f w hr
  have H2 := hideS fun w => refAbove_any f w hr
  have H3 := hideS fun w => refNum_any t w ht
  have H4 := hideS fun w => refAbove_any t w ht
  have H5 := hideS fun w => refLong_any t w ht HI
  have HTm := hideS fun w => refTimes_any k w hk
  unfold asyB at h
  have hc : finB f = true ∧ ltB 0 f = true ∧ finB t = true ∧ ltB 0 t = true ∧ ltB 4697254411347427328 t = false := by
    cases h1 : finB f <;> cases h2 : ltB 0 f <;> cases h3 : finB t <;> cases h4 : ltB 0 t <;> cases h5 : ltB 4697254411347427328 t <;> simp [h1, h2, h3, h4, h5] at h ⊢
  rw [hc.1] at H1
  rw [hc.2.1] at H2
  rw [hc.2.2.1] at H3
  rw [hc.2.2.2.1] at H4
  rw [hc.2.2.2.2] at H5
  clear h hc hr ht HI
  have HN := hideS fun w => refNum_any r w hf
  have hE := eny_cases r
  clear hf
  generalize enyU r = eu at *
  generalize enyE r = ee at *
  subst hk1
  dsimp only [timesI] at HTm
  go_enter Try.func13, Try.ntmps13
  go_wp2_with fail
  refine (HK.out _).mono ?_
  rintro e w' ⟨rfl, rfl⟩
  go_wp2_with fail
  refine (H1.out _).mono ?_
  rintro e w' ⟨rfl, rfl⟩
  go_wp2_with fail
  refine (H2.out _).mono ?_
  rintro e w' ⟨rfl, rfl⟩
  go_wp2_with fail
  refine (H3.out _).mono ?_
  rintro e w' ⟨rfl, rfl⟩
  go_wp2_with fail
  refine (H4.out _).mono ?_
  rintro e w' ⟨rfl, rfl⟩
  go_wp2_with fail
  refine (H5.out _).mono ?_
  rintro e w1 ⟨rfl, hb⟩
  have HB1 := hideS hb
  clear hb
  go_wp2_with fail
  refine (HTm.out _).mono ?_
  rintro e w' ⟨rfl, rfl⟩
  go_wp2_with fail
  refine (HM.out _).mono ?_
  rintro e w2 ⟨rfl, hb⟩
  have HB2 := hideS (HB1.out.trans (hb.mono HB1.out.size))
  clear hb HB1
  go_wp2_with fail
  refine (HL.out _).mono ?_
  rintro e w3 ⟨rfl, hb⟩
  have HB3 := hideS (HB2.out.trans (hb.mono HB2.out.size))
  clear hb HB2
  go_wp2_with fail
  refine (HF.out _).mono ?_
  rintro e w4 ⟨rfl, hb⟩
  have HB4 := hideS (HB3.out.trans (hb.mono HB3.out.size))
  clear hb HB3
  go_wp2_with fail
  refine (H6.out _).mono ?_
  rintro e w5 ⟨rfl, hb⟩
  have HB5 := hideS (HB4.out.trans (hb.mono HB4.out.size))
  clear hb HB4
  go_wp2_with fail
  refine (H7.out _).mono ?_
  rintro e w6 ⟨rfl, hb⟩
  have HB6 := hideS (HB5.out.trans (hb.mono HB5.out.size))
  clear hb HB5
  go_wp2_with fail
  refine (H8.out _).mono ?_
  rintro e w7 ⟨rfl, hb⟩
  have HB7 := hideS (HB6.out.trans (hb.mono HB6.out.size))
  clear hb HB6
  rcases hE with ⟨e1, e2, e3⟩ | ⟨e1, e2, e3⟩
  · rw [e1] at HN
    go_wp2_with fail
    refine (HN.out _).mono ?_
    rintro e w' ⟨rfl, rfl⟩
    go_wp2_with fail
    go_ret2
    exact ⟨by rw [e2, e3]; rfl, HB7.out⟩
  · rw [e1] at HN
    go_wp2_with fail
    refine (HN.out _).mono ?_
    rintro e w' ⟨rfl, rfl⟩
    go_wp2_with fail
    go_ret2
    exact ⟨by rw [e2, e3]; rfl, HB7.out⟩

set_option maxHeartbeats 6400000 in
theorem refYield_cont (f t mm ln mi r : Int) (w : World) (hr : U64 f) (ht : U64 t) (h : asyB f t = true) (HI : Hid (StpI 23 1048576 4697254411347427328)) (HL : Hid (Stp1 31 f ln)) (HF : Hid (Stp1 30 ln mi)) (HM : Hid (StpI 23 0 mm)) (H6 : Hid (Stp2 28 mi t r)) (hf : U64 r) :
    Calls Try.prog 13 #[.int .i64 6, .int .u64 f, .int .u64 t] w fun e w' => e = .returned (.tuple #[.int .u64 (enyU r), .int .i64 (enyE r)]) ∧ Below w.heap.size w w' := by
  obtain ⟨k, hk1⟩ : ∃ k : Int, k = 6 := ⟨_, rfl⟩
  have hk : 1 ≤ k ∧ k ≤ 6 := by omega
  have HK := hideS fun w => refKind_any k w
  rw [decide_eq_true hk] at HK
  have H1 := hideS fun w => refNum_any f w hr
  have H2 := hideS fun w => refAbove_any f w hr
  have H3 := hideS fun w => refNum_any t w ht
  have H4 := hideS fun w => refAbove_any t w ht
  have H5 := hideS fun w => refLong_any t w ht HI
  have HTm := hideS fun w => refTimes_any k w hk
  unfold asyB at h
  have hc : finB f = true ∧ ltB 0 f = true ∧ finB t = true ∧ ltB 0 t = true ∧ ltB 4697254411347427328 t = false := by
    cases h1 : finB f <;> cases h2 : ltB 0 f <;> cases h3 : finB t <;> cases h4 : ltB 0 t <;> cases h5 : ltB 4697254411347427328 t <;> simp [h1, h2, h3, h4, h5] at h ⊢
  rw [hc.1] at H1
  rw [hc.2.1] at H2
  rw [hc.2.2.1] at H3
  rw [hc.2.2.2.1] at H4
  rw [hc.2.2.2.2] at H5
  clear h hc hr ht HI
  have HN := hideS fun w => refNum_any r w hf
  have hE := eny_cases r
  clear hf
  generalize enyU r = eu at *
  generalize enyE r = ee at *
  subst hk1
  dsimp only [timesI] at HTm
  go_enter Try.func13, Try.ntmps13
  go_wp2_with fail
  refine (HK.out _).mono ?_
  rintro e w' ⟨rfl, rfl⟩
  go_wp2_with fail
  refine (H1.out _).mono ?_
  rintro e w' ⟨rfl, rfl⟩
  go_wp2_with fail
  refine (H2.out _).mono ?_
  rintro e w' ⟨rfl, rfl⟩
  go_wp2_with fail
  refine (H3.out _).mono ?_
  rintro e w' ⟨rfl, rfl⟩
  go_wp2_with fail
  refine (H4.out _).mono ?_
  rintro e w' ⟨rfl, rfl⟩
  go_wp2_with fail
  refine (H5.out _).mono ?_
  rintro e w1 ⟨rfl, hb⟩
  have HB1 := hideS hb
  clear hb
  go_wp2_with fail
  refine (HTm.out _).mono ?_
  rintro e w' ⟨rfl, rfl⟩
  go_wp2_with fail
  refine (HM.out _).mono ?_
  rintro e w2 ⟨rfl, hb⟩
  have HB2 := hideS (HB1.out.trans (hb.mono HB1.out.size))
  clear hb HB1
  go_wp2_with fail
  refine (HL.out _).mono ?_
  rintro e w3 ⟨rfl, hb⟩
  have HB3 := hideS (HB2.out.trans (hb.mono HB2.out.size))
  clear hb HB2
  go_wp2_with fail
  refine (HF.out _).mono ?_
  rintro e w4 ⟨rfl, hb⟩
  have HB4 := hideS (HB3.out.trans (hb.mono HB3.out.size))
  clear hb HB3
  go_wp2_with fail
  refine (H6.out _).mono ?_
  rintro e w5 ⟨rfl, hb⟩
  have HB5 := hideS (HB4.out.trans (hb.mono HB4.out.size))
  clear hb HB4
  rcases hE with ⟨e1, e2, e3⟩ | ⟨e1, e2, e3⟩
  · rw [e1] at HN
    go_wp2_with fail
    refine (HN.out _).mono ?_
    rintro e w' ⟨rfl, rfl⟩
    go_wp2_with fail
    go_ret2
    exact ⟨by rw [e2, e3]; rfl, HB5.out⟩
  · rw [e1] at HN
    go_wp2_with fail
    refine (HN.out _).mono ?_
    rintro e w' ⟨rfl, rfl⟩
    go_wp2_with fail
    go_ret2
    exact ⟨by rw [e2, e3]; rfl, HB5.out⟩

set_option maxHeartbeats 6400000 in
theorem refYield_times (k f t mm ln mi p q x d r : Int) (w : World) (hr : U64 f) (ht : U64 t) (h : asyB f t = true) (HI : Hid (StpI 23 1048576 4697254411347427328)) (HL : Hid (Stp1 31 f ln)) (HF : Hid (Stp1 30 ln mi)) (hk2 : 2 ≤ k ∧ k ≤ 5) (HM : Hid (StpI 23 (timesI k) mm)) (H6 : Hid (Stp2 26 mm t p)) (H7 : Hid (Stp2 28 mi p q)) (H8 : Hid (Stp1 29 q x)) (H9 : Hid (Stp2 36 x 4607182418800017408 d)) (H10 : Hid (Stp2 26 mm d r)) (hf : U64 r) :
    Calls Try.prog 13 #[.int .i64 k, .int .u64 f, .int .u64 t] w fun e w' => e = .returned (.tuple #[.int .u64 (enyU r), .int .i64 (enyE r)]) ∧ Below w.heap.size w w' := by
  have hk : 1 ≤ k ∧ k ≤ 6 := by omega
  have hn1 : ¬ k = 1 := by omega
  have hn6 : ¬ k = 6 := by omega
  have hq1 : (k == 1) = false := beq_eq_false_iff_ne.2 hn1
  have hq6 : (k == 6) = false := beq_eq_false_iff_ne.2 hn6
  have HK := hideS fun w => refKind_any k w
  rw [decide_eq_true hk] at HK
  have H1 := hideS fun w => refNum_any f w hr
  have H2 := hideS fun w => refAbove_any f w hr
  have H3 := hideS fun w => refNum_any t w ht
  have H4 := hideS fun w => refAbove_any t w ht
  have H5 := hideS fun w => refLong_any t w ht HI
  have HTm := hideS fun w => refTimes_any k w hk
  unfold asyB at h
  have hc : finB f = true ∧ ltB 0 f = true ∧ finB t = true ∧ ltB 0 t = true ∧ ltB 4697254411347427328 t = false := by
    cases h1 : finB f <;> cases h2 : ltB 0 f <;> cases h3 : finB t <;> cases h4 : ltB 0 t <;> cases h5 : ltB 4697254411347427328 t <;> simp [h1, h2, h3, h4, h5] at h ⊢
  rw [hc.1] at H1
  rw [hc.2.1] at H2
  rw [hc.2.2.1] at H3
  rw [hc.2.2.2.1] at H4
  rw [hc.2.2.2.2] at H5
  clear h hc hr ht HI
  have HN := hideS fun w => refNum_any r w hf
  have hE := eny_cases r
  clear hf
  generalize enyU r = eu at *
  generalize enyE r = ee at *
  generalize timesI k = tk at *
  clear hk hk2
  go_enter Try.func13, Try.ntmps13
  go_wp2_with fail
  refine (HK.out _).mono ?_
  rintro e w' ⟨rfl, rfl⟩
  go_wp2_with fail
  refine (H1.out _).mono ?_
  rintro e w' ⟨rfl, rfl⟩
  go_wp2_with fail
  refine (H2.out _).mono ?_
  rintro e w' ⟨rfl, rfl⟩
  go_wp2_with fail
  refine (H3.out _).mono ?_
  rintro e w' ⟨rfl, rfl⟩
  go_wp2_with fail
  refine (H4.out _).mono ?_
  rintro e w' ⟨rfl, rfl⟩
  go_wp2_with fail
  refine (H5.out _).mono ?_
  rintro e w1 ⟨rfl, hb⟩
  have HB1 := hideS hb
  clear hb
  go_wp2_with fail
  refine (HTm.out _).mono ?_
  rintro e w' ⟨rfl, rfl⟩
  go_wp2_with fail
  refine (HM.out _).mono ?_
  rintro e w2 ⟨rfl, hb⟩
  have HB2 := hideS (HB1.out.trans (hb.mono HB1.out.size))
  clear hb HB1
  go_wp2_with fail
  refine (HL.out _).mono ?_
  rintro e w3 ⟨rfl, hb⟩
  have HB3 := hideS (HB2.out.trans (hb.mono HB2.out.size))
  clear hb HB2
  go_wp2_with fail
  refine (HF.out _).mono ?_
  rintro e w4 ⟨rfl, hb⟩
  have HB4 := hideS (HB3.out.trans (hb.mono HB3.out.size))
  clear hb HB3
  go_wp2_with fail
  refine (H6.out _).mono ?_
  rintro e w5 ⟨rfl, hb⟩
  have HB5 := hideS (HB4.out.trans (hb.mono HB4.out.size))
  clear hb HB4
  go_wp2_with fail
  refine (H7.out _).mono ?_
  rintro e w6 ⟨rfl, hb⟩
  have HB6 := hideS (HB5.out.trans (hb.mono HB5.out.size))
  clear hb HB5
  go_wp2_with fail
  refine (H8.out _).mono ?_
  rintro e w7 ⟨rfl, hb⟩
  have HB7 := hideS (HB6.out.trans (hb.mono HB6.out.size))
  clear hb HB6
  go_wp2_with fail
  refine (H9.out _).mono ?_
  rintro e w8 ⟨rfl, hb⟩
  have HB8 := hideS (HB7.out.trans (hb.mono HB7.out.size))
  clear hb HB7
  go_wp2_with fail
  refine (H10.out _).mono ?_
  rintro e w9 ⟨rfl, hb⟩
  have HB9 := hideS (HB8.out.trans (hb.mono HB8.out.size))
  clear hb HB8
  rcases hE with ⟨e1, e2, e3⟩ | ⟨e1, e2, e3⟩
  · rw [e1] at HN
    go_wp2_with fail
    refine (HN.out _).mono ?_
    rintro e w' ⟨rfl, rfl⟩
    go_wp2_with fail
    go_ret2
    exact ⟨by rw [e2, e3]; rfl, HB9.out⟩
  · rw [e1] at HN
    go_wp2_with fail
    refine (HN.out _).mono ?_
    rintro e w' ⟨rfl, rfl⟩
    go_wp2_with fail
    go_ret2
    exact ⟨by rw [e2, e3]; rfl, HB9.out⟩
end Go.Proofs.Ytbkmbdbjeiffpaa
namespace Go.Proofs.Ytbkmbdbjeiffpaa
open Go.RowKit

/-- A number above 0. -/
def posB (u : Int) : Bool := finB u && ltB 0 u
/-- The three words that Forward is asked for. -/
def fwI (a b c : Int) : Nat → Int
  | 0 => a
  | 1 => b
  | _ => c
theorem fw_u64 {a b c : Int} (ha : U64 a) (hb : U64 b) (hc : U64 c) : ∀ m, U64 (fwI a b c m)
  | 0 => ha
  | 1 => hb
  | _ + 2 => hc
theorem fw_cell (w : World) (a b c : Int) (m : Nat) (hm : m < 3) : (w.alloc (.cells #[.int .u64 a, .int .u64 b, .int .u64 c] 26)).cell? ⟨w.heap.size, m, none⟩ = some (.int .u64 (fwI a b c m)) := by
  rcases (show m = 0 ∨ m = 1 ∨ m = 2 by omega) with rfl | rfl | rfl
  · simp [fwI]
  · simp [fwI]
  · simp [fwI]
end Go.Proofs.Ytbkmbdbjeiffpaa
