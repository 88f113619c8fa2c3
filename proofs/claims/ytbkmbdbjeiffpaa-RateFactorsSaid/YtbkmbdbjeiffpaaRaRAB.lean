/- The contracts of the document's Kind, times, above, long: rates. The contract of the document's Factor. -/
import Derived.Test.YtbkmbdbjeiffpaaHaq
namespace Go.Proofs.Ytbkmbdbjeiffpaa
open Go.RowKit

/-- A step of one word, of two, of a whole number. -/
def Stp1 (f : Nat) (u z : Int) : Prop := ∀ w, Calls Try.prog f #[.int .u64 u] w fun e w' => e = .returned (.int .u64 z) ∧ Below w.heap.size w w'
def Stp2 (f : Nat) (u v z : Int) : Prop := ∀ w, Calls Try.prog f #[.int .u64 u, .int .u64 v] w fun e w' => e = .returned (.int .u64 z) ∧ Below w.heap.size w w'
def StpI (f : Nat) (n z : Int) : Prop := ∀ w, Calls Try.prog f #[.int .i64 n] w fun e w' => e = .returned (.int .u64 z) ∧ Below w.heap.size w w'
def ltB (u v : Int) : Bool := !nanB u && !nanB v && decide (rankI u < rankI v)
/-- A number (neither NaN nor infinite). -/
def finB (u : Int) : Bool := decide (szI u < 9218868437227405312)
def timesI (k : Int) : Int := if k = 2 then 1 else if k = 3 then 2 else if k = 4 then 4 else if k = 5 then 12 else 0
/-- What stands at the end: a number other than 0, or an error. -/
def endU (f : Int) : Int := if finB f = true ∧ szI f ≠ 0 then f else 0
def endE (f : Int) : Int := if finB f = true ∧ szI f ≠ 0 then 0 else 91
/-- The same, where 0 may be. -/
def enyU (f : Int) : Int := if finB f = true then f else 0
def enyE (f : Int) : Int := if finB f = true then 0 else 91

set_option maxHeartbeats 800000 in
theorem refLt_any (u v : Int) (w : World) (h : U64 u) (h' : U64 v) :
    Calls Try.prog 21 #[.int .u64 u, .int .u64 v] w fun e w' => e = .returned (.bool (ltB u v)) ∧ w' = w := by
  have H1 := hideS fun w => refRank_any u w h
  have H2 := hideS fun w => refRank_any v w h'
  unfold ltB
  generalize rankI u = a at *
  generalize rankI v = c at *
  generalize nanB u = m at *
  generalize nanB v = n at *
  clear h h'
  go_enter Try.func21, Try.ntmps21
  go_wp2_with fail
  refine (H1.out _).mono ?_
  rintro e w' ⟨rfl, rfl⟩
  go_wp2_with fail
  refine (H2.out _).mono ?_
  rintro e w' ⟨rfl, rfl⟩
  cases m <;> cases n
  all_goals go_wp2_with fail
  all_goals go_ret
  all_goals exact ⟨by simp, rfl⟩

set_option maxHeartbeats 400000 in
theorem refNum_any (u : Int) (w : World) (h : U64 u) :
    Calls Try.prog 20 #[.int .u64 u] w fun e w' => e = .returned (.bool (finB u)) ∧ w' = w := by
  have hz := andNot_sz h
  unfold finB
  go_enter Try.func20, Try.ntmps20
  go_wp2
  go_ret
  exact ⟨rfl, rfl⟩

set_option maxHeartbeats 400000 in
theorem refKind_any (k : Int) (w : World) :
    Calls Try.prog 19 #[.int .i64 k] w fun e w' => e = .returned (.bool (decide (1 ≤ k ∧ k ≤ 6))) ∧ w' = w := by
  by_cases h1 : 1 ≤ k
  · by_cases h2 : k ≤ 6
    · rw [decide_eq_true (⟨h1, h2⟩ : 1 ≤ k ∧ k ≤ 6)]
      go_enter Try.func19, Try.ntmps19
      go_wp2
      go_ret
      exact ⟨by simp, rfl⟩
    · rw [decide_eq_false (fun a : 1 ≤ k ∧ k ≤ 6 => h2 a.2)]
      go_enter Try.func19, Try.ntmps19
      go_wp2
      go_ret
      exact ⟨by simp, rfl⟩
  · rw [decide_eq_false (fun a : 1 ≤ k ∧ k ≤ 6 => h1 a.1)]
    go_enter Try.func19, Try.ntmps19
    go_wp2
    go_ret
    exact ⟨rfl, rfl⟩

set_option maxHeartbeats 800000 in
theorem refTimes_any (k : Int) (w : World) (h : 1 ≤ k ∧ k ≤ 6) :
    Calls Try.prog 24 #[.int .i64 k] w fun e w' => e = .returned (.int .i64 (timesI k)) ∧ w' = w := by
  rcases (show k = 1 ∨ k = 2 ∨ k = 3 ∨ k = 4 ∨ k = 5 ∨ k = 6 by omega) with rfl | rfl | rfl | rfl | rfl | rfl
  all_goals
    go_enter Try.func24, Try.ntmps24
    go_wp2
    go_ret
    exact ⟨rfl, rfl⟩

set_option maxHeartbeats 400000 in
theorem refAbove_any (u : Int) (w : World) (h : U64 u) :
    Calls Try.prog 27 #[.int .u64 u] w fun e w' => e = .returned (.bool (ltB 0 u)) ∧ w' = w := by
  have H := hideS fun w => refLt_any 0 u w (by unfold U64; omega) h
  generalize ltB 0 u = B at *
  clear h
  go_enter Try.func27, Try.ntmps27
  go_wp2_with fail
  refine (H.out _).mono ?_
  rintro e w' ⟨rfl, rfl⟩
  go_wp2_with fail
  go_ret
  exact ⟨rfl, rfl⟩

set_option maxHeartbeats 400000 in
theorem refLong_any (u : Int) (w : World) (h : U64 u) (HI : Hid (StpI 23 1048576 4697254411347427328)) :
    Calls Try.prog 22 #[.int .u64 u] w fun e w' => e = .returned (.bool (ltB 4697254411347427328 u)) ∧ Below w.heap.size w w' := by
  have H := hideS fun w => refLt_any 4697254411347427328 u w (by unfold U64; omega) h
  generalize ltB 4697254411347427328 u = B at *
  clear h
  go_enter Try.func22, Try.ntmps22
  go_wp2_with fail
  refine (HI.out _).mono ?_
  rintro e w1 ⟨rfl, hb⟩
  go_wp2_with fail
  refine (H.out _).mono ?_
  rintro e w' ⟨rfl, rfl⟩
  go_wp2_with fail
  go_ret
  exact ⟨rfl, hb⟩
end Go.Proofs.Ytbkmbdbjeiffpaa
namespace Go.Proofs.Ytbkmbdbjeiffpaa
open Go.RowKit

/-- May a rate and a time be asked for? -/
def askB (r t : Int) : Bool := finB r && finB t && !ltB t 0 && !ltB 4697254411347427328 t

set_option maxHeartbeats 800000 in
theorem refSz_any (u : Int) (w : World) (h : U64 u) :
    Calls Try.prog 32 #[.int .u64 u] w fun e w' => e = .returned (.int .u64 (szI u)) ∧ w' = w := by
  have hz := andNot_sz h
  go_enter Try.func32, Try.ntmps32
  go_wp2
  go_ret
  exact ⟨rfl, rfl⟩

set_option maxHeartbeats 800000 in
theorem refFactor_kind (k r t : Int) (w : World) (h : ¬ (1 ≤ k ∧ k ≤ 6)) :
    Calls Try.prog 8 #[.int .i64 k, .int .u64 r, .int .u64 t] w fun e w' => e = .returned (.tuple #[.int .u64 0, .int .i64 90]) ∧ Below w.heap.size w w' := by
  have HK := hideS fun w => refKind_any k w
  rw [decide_eq_false h] at HK
  clear h
  go_enter Try.func8, Try.ntmps8
  go_wp2_with fail
  refine (HK.out _).mono ?_
  rintro e w' ⟨rfl, rfl⟩
  go_wp2_with fail
  go_ret2
  exact ⟨rfl, Below.refl _ _⟩

set_option maxHeartbeats 3200000 in
theorem refFactor_bad (k r t : Int) (w : World) (hk : 1 ≤ k ∧ k ≤ 6) (hr : U64 r) (ht : U64 t) (h : askB r t = false) (HI : Hid (StpI 23 1048576 4697254411347427328)) :
    Calls Try.prog 8 #[.int .i64 k, .int .u64 r, .int .u64 t] w fun e w' => e = .returned (.tuple #[.int .u64 0, .int .i64 91]) ∧ Below w.heap.size w w' := by
  have HK := hideS fun w => refKind_any k w
  rw [decide_eq_true hk] at HK
  have H1 := hideS fun w => refNum_any r w hr
  have H2 := hideS fun w => refNum_any t w ht
  have H3 := hideS fun w => refLt_any t 0 w ht (by unfold U64; omega)
  have H4 := hideS fun w => refLong_any t w ht HI
  unfold askB at h
  generalize finB r = b1 at *
  generalize finB t = b2 at *
  generalize ltB t 0 = b3 at *
  generalize ltB 4697254411347427328 t = b4 at *
  clear hk hr ht HI
  have hc : b1 = false ∨ (b1 = true ∧ b2 = false) ∨ (b1 = true ∧ b2 = true ∧ b3 = true) ∨ (b1 = true ∧ b2 = true ∧ b3 = false ∧ b4 = true) := by
    cases b1 <;> cases b2 <;> cases b3 <;> cases b4 <;> simp at h ⊢
  clear h
  rcases hc with rfl | ⟨rfl, rfl⟩ | ⟨rfl, rfl, rfl⟩ | ⟨rfl, rfl, rfl, rfl⟩
  · go_enter Try.func8, Try.ntmps8
    go_wp2_with fail
    refine (HK.out _).mono ?_
    rintro e w' ⟨rfl, rfl⟩
    go_wp2_with fail
    refine (H1.out _).mono ?_
    rintro e w' ⟨rfl, rfl⟩
    go_wp2_with fail
    go_ret2
    exact ⟨rfl, Below.refl _ _⟩
  · go_enter Try.func8, Try.ntmps8
    go_wp2_with fail
    refine (HK.out _).mono ?_
    rintro e w' ⟨rfl, rfl⟩
    go_wp2_with fail
    refine (H1.out _).mono ?_
    rintro e w' ⟨rfl, rfl⟩
    go_wp2_with fail
    refine (H2.out _).mono ?_
    rintro e w' ⟨rfl, rfl⟩
    go_wp2_with fail
    go_ret2
    exact ⟨rfl, Below.refl _ _⟩
  · go_enter Try.func8, Try.ntmps8
    go_wp2_with fail
    refine (HK.out _).mono ?_
    rintro e w' ⟨rfl, rfl⟩
    go_wp2_with fail
    refine (H1.out _).mono ?_
    rintro e w' ⟨rfl, rfl⟩
    go_wp2_with fail
    refine (H2.out _).mono ?_
    rintro e w' ⟨rfl, rfl⟩
    go_wp2_with fail
    refine (H3.out _).mono ?_
    rintro e w' ⟨rfl, rfl⟩
    go_wp2_with fail
    go_ret2
    exact ⟨rfl, Below.refl _ _⟩
  · go_enter Try.func8, Try.ntmps8
    go_wp2_with fail
    refine (HK.out _).mono ?_
    rintro e w' ⟨rfl, rfl⟩
    go_wp2_with fail
    refine (H1.out _).mono ?_
    rintro e w' ⟨rfl, rfl⟩
    go_wp2_with fail
    refine (H2.out _).mono ?_
    rintro e w' ⟨rfl, rfl⟩
    go_wp2_with fail
    refine (H3.out _).mono ?_
    rintro e w' ⟨rfl, rfl⟩
    go_wp2_with fail
    refine (H4.out _).mono ?_
    rintro e w1 ⟨rfl, hb⟩
    go_wp2_with fail
    go_ret2
    exact ⟨rfl, hb⟩

theorem end_cases (f : Int) : (finB f = false ∧ endU f = 0 ∧ endE f = 91) ∨ (finB f = true ∧ szI f = 0 ∧ endU f = 0 ∧ endE f = 91) ∨ (finB f = true ∧ szI f ≠ 0 ∧ endU f = f ∧ endE f = 0) := by
  unfold endU endE
  cases h : finB f
  · exact Or.inl ⟨rfl, by simp, by simp⟩
  · by_cases hz : szI f = 0
    · exact Or.inr (Or.inl ⟨rfl, hz, by simp [hz], by simp [hz]⟩)
    · exact Or.inr (Or.inr ⟨rfl, hz, by simp [hz], by simp [hz]⟩)

set_option maxHeartbeats 3200000 in
theorem refFactor_simple_no (r t mm m b : Int) (w : World) (hr : U64 r) (ht : U64 t) (h : askB r t = true) (HI : Hid (StpI 23 1048576 4697254411347427328)) (HM : Hid (StpI 23 0 mm)) (H5 : Hid (Stp2 26 r t m)) (H6 : Hid (Stp2 25 4607182418800017408 m b)) (hb : U64 b) (hA : ltB 0 b = false) :
    Calls Try.prog 8 #[.int .i64 1, .int .u64 r, .int .u64 t] w fun e w' => e = .returned (.tuple #[.int .u64 0, .int .i64 91]) ∧ Below w.heap.size w w' := by
  obtain ⟨k, hk1⟩ : ∃ k : Int, k = 1 := ⟨_, rfl⟩
  have hk : 1 ≤ k ∧ k ≤ 6 := by omega
  have HA := hideS fun w => refAbove_any b w hb
  rw [hA] at HA
  clear hA hb
  have HK := hideS fun w => refKind_any k w
  rw [decide_eq_true hk] at HK
  have H1 := hideS fun w => refNum_any r w hr
  have H2 := hideS fun w => refNum_any t w ht
  have H3 := hideS fun w => refLt_any t 0 w ht (by unfold U64; omega)
  have H4 := hideS fun w => refLong_any t w ht HI
  have HTm := hideS fun w => refTimes_any k w hk
  unfold askB at h
  have hc : finB r = true ∧ finB t = true ∧ ltB t 0 = false ∧ ltB 4697254411347427328 t = false := by
    cases h1 : finB r <;> cases h2 : finB t <;> cases h3 : ltB t 0 <;> cases h4 : ltB 4697254411347427328 t <;> simp [h1, h2, h3, h4] at h ⊢
  rw [hc.1] at H1
  rw [hc.2.1] at H2
  rw [hc.2.2.1] at H3
  rw [hc.2.2.2] at H4
  clear h hc hr ht HI
  subst hk1
  dsimp only [timesI] at HTm
  go_enter Try.func8, Try.ntmps8
  go_wp2_with fail
  refine (HK.out _).mono ?_
  rintro e w' ⟨rfl, rfl⟩
  go_wp2_with fail
  refine (H1.out _).mono ?_
  rintro e w' ⟨rfl, rfl⟩
  go_wp2_with fail
  refine (H2.out _).mono ?_
  rintro e w' ⟨rfl, rfl⟩
  go_wp2_with fail
  refine (H3.out _).mono ?_
  rintro e w' ⟨rfl, rfl⟩
  go_wp2_with fail
  refine (H4.out _).mono ?_
  rintro e w1 ⟨rfl, hb⟩
  have HB1 := hideS hb
  clear hb
  go_wp2_with fail
  refine (HTm.out _).mono ?_
  rintro e w' ⟨rfl, rfl⟩
  go_wp2_with fail
  refine (HM.out _).mono ?_
  rintro e w2 ⟨rfl, hb⟩
  have HB2 := hideS (HB1.out.trans (hb.mono HB1.out.size))
  clear hb HB1
  go_wp2_with fail
  refine (H5.out _).mono ?_
  rintro e w3 ⟨rfl, hb⟩
  have HB3 := hideS (HB2.out.trans (hb.mono HB2.out.size))
  clear hb HB2
  go_wp2_with fail
  refine (H6.out _).mono ?_
  rintro e w4 ⟨rfl, hb⟩
  have HB4 := hideS (HB3.out.trans (hb.mono HB3.out.size))
  clear hb HB3
  go_wp2_with fail
  refine (HA.out _).mono ?_
  rintro e w' ⟨rfl, rfl⟩
  go_wp2_with fail
  go_ret2
  exact ⟨rfl, HB4.out⟩

set_option maxHeartbeats 6400000 in
theorem refFactor_simple (r t mm m b f : Int) (w : World) (hr : U64 r) (ht : U64 t) (h : askB r t = true) (HI : Hid (StpI 23 1048576 4697254411347427328)) (HM : Hid (StpI 23 0 mm)) (H5 : Hid (Stp2 26 r t m)) (H6 : Hid (Stp2 25 4607182418800017408 m b)) (hb : U64 b) (hA : ltB 0 b = true) (H7 : Hid (Stp2 28 4607182418800017408 b f)) (hf : U64 f) :
    Calls Try.prog 8 #[.int .i64 1, .int .u64 r, .int .u64 t] w fun e w' => e = .returned (.tuple #[.int .u64 (endU f), .int .i64 (endE f)]) ∧ Below w.heap.size w w' := by
  obtain ⟨k, hk1⟩ : ∃ k : Int, k = 1 := ⟨_, rfl⟩
  have hk : 1 ≤ k ∧ k ≤ 6 := by omega
  have HA := hideS fun w => refAbove_any b w hb
  rw [hA] at HA
  clear hA hb
  have HK := hideS fun w => refKind_any k w
  rw [decide_eq_true hk] at HK
  have H1 := hideS fun w => refNum_any r w hr
  have H2 := hideS fun w => refNum_any t w ht
  have H3 := hideS fun w => refLt_any t 0 w ht (by unfold U64; omega)
  have H4 := hideS fun w => refLong_any t w ht HI
  have HTm := hideS fun w => refTimes_any k w hk
  unfold askB at h
  have hc : finB r = true ∧ finB t = true ∧ ltB t 0 = false ∧ ltB 4697254411347427328 t = false := by
    cases h1 : finB r <;> cases h2 : finB t <;> cases h3 : ltB t 0 <;> cases h4 : ltB 4697254411347427328 t <;> simp [h1, h2, h3, h4] at h ⊢
  rw [hc.1] at H1
  rw [hc.2.1] at H2
  rw [hc.2.2.1] at H3
  rw [hc.2.2.2] at H4
  clear h hc hr ht HI
  have HN := hideS fun w => refNum_any f w hf
  have HZ := hideS fun w => refSz_any f w hf
  have hE := end_cases f
  clear hf
  generalize endU f = eu at *
  generalize endE f = ee at *
  subst hk1
  dsimp only [timesI] at HTm
  go_enter Try.func8, Try.ntmps8
  go_wp2_with fail
  refine (HK.out _).mono ?_
  rintro e w' ⟨rfl, rfl⟩
  go_wp2_with fail
  refine (H1.out _).mono ?_
  rintro e w' ⟨rfl, rfl⟩
  go_wp2_with fail
  refine (H2.out _).mono ?_
  rintro e w' ⟨rfl, rfl⟩
  go_wp2_with fail
  refine (H3.out _).mono ?_
  rintro e w' ⟨rfl, rfl⟩
  go_wp2_with fail
  refine (H4.out _).mono ?_
  rintro e w1 ⟨rfl, hb⟩
  have HB1 := hideS hb
  clear hb
  go_wp2_with fail
  refine (HTm.out _).mono ?_
  rintro e w' ⟨rfl, rfl⟩
  go_wp2_with fail
  refine (HM.out _).mono ?_
  rintro e w2 ⟨rfl, hb⟩
  have HB2 := hideS (HB1.out.trans (hb.mono HB1.out.size))
  clear hb HB1
  go_wp2_with fail
  refine (H5.out _).mono ?_
  rintro e w3 ⟨rfl, hb⟩
  have HB3 := hideS (HB2.out.trans (hb.mono HB2.out.size))
  clear hb HB2
  go_wp2_with fail
  refine (H6.out _).mono ?_
  rintro e w4 ⟨rfl, hb⟩
  have HB4 := hideS (HB3.out.trans (hb.mono HB3.out.size))
  clear hb HB3
  go_wp2_with fail
  refine (HA.out _).mono ?_
  rintro e w' ⟨rfl, rfl⟩
  go_wp2_with fail
  refine (H7.out _).mono ?_
  rintro e w5 ⟨rfl, hb⟩
  have HB5 := hideS (HB4.out.trans (hb.mono HB4.out.size))
  clear hb HB4
  rcases hE with ⟨e1, e2, e3⟩ | ⟨e1, e2, e3, e4⟩ | ⟨e1, e2, e3, e4⟩
  · rw [e1] at HN
    go_wp2_with fail
    refine (HN.out _).mono ?_
    rintro e w' ⟨rfl, rfl⟩
    go_wp2_with fail
    go_ret2
    exact ⟨by rw [e2, e3]; rfl, HB5.out⟩
  · rw [e1] at HN
    rw [e2] at HZ
    go_wp2_with fail
    refine (HN.out _).mono ?_
    rintro e w' ⟨rfl, rfl⟩
    go_wp2_with fail
    refine (HZ.out _).mono ?_
    rintro e w' ⟨rfl, rfl⟩
    go_wp2_with fail
    go_ret2
    exact ⟨by rw [e3, e4]; rfl, HB5.out⟩
  · rw [e1] at HN
    generalize szI f = zz at *
    have e2' : (zz == 0) = false := beq_eq_false_iff_ne.2 e2
    go_wp2_with fail
    refine (HN.out _).mono ?_
    rintro e w' ⟨rfl, rfl⟩
    go_wp2_with fail
    refine (HZ.out _).mono ?_
    rintro e w' ⟨rfl, rfl⟩
    go_wp2_with fail
    go_ret2
    exact ⟨by rw [e3, e4]; rfl, HB5.out⟩

set_option maxHeartbeats 6400000 in
theorem refFactor_cont (r t mm m fl f : Int) (w : World) (hr : U64 r) (ht : U64 t) (h : askB r t = true) (HI : Hid (StpI 23 1048576 4697254411347427328)) (HM : Hid (StpI 23 0 mm)) (H5 : Hid (Stp2 26 r t m)) (H6 : Hid (Stp1 30 m fl)) (H7 : Hid (Stp1 29 fl f)) (hf : U64 f) :
    Calls Try.prog 8 #[.int .i64 6, .int .u64 r, .int .u64 t] w fun e w' => e = .returned (.tuple #[.int .u64 (endU f), .int .i64 (endE f)]) ∧ Below w.heap.size w w' := by
  obtain ⟨k, hk1⟩ : ∃ k : Int, k = 6 := ⟨_, rfl⟩
  have hk : 1 ≤ k ∧ k ≤ 6 := by omega
  have HK := hideS fun w => refKind_any k w
  rw [decide_eq_true hk] at HK
  have H1 := hideS fun w => refNum_any r w hr
  have H2 := hideS fun w => refNum_any t w ht
  have H3 := hideS fun w => refLt_any t 0 w ht (by unfold U64; omega)
  have H4 := hideS fun w => refLong_any t w ht HI
  have HTm := hideS fun w => refTimes_any k w hk
  unfold askB at h
  have hc : finB r = true ∧ finB t = true ∧ ltB t 0 = false ∧ ltB 4697254411347427328 t = false := by
    cases h1 : finB r <;> cases h2 : finB t <;> cases h3 : ltB t 0 <;> cases h4 : ltB 4697254411347427328 t <;> simp [h1, h2, h3, h4] at h ⊢
  rw [hc.1] at H1
  rw [hc.2.1] at H2
  rw [hc.2.2.1] at H3
  rw [hc.2.2.2] at H4
  clear h hc hr ht HI
  have HN := hideS fun w => refNum_any f w hf
  have HZ := hideS fun w => refSz_any f w hf
  have hE := end_cases f
  clear hf
  generalize endU f = eu at *
  generalize endE f = ee at *
  subst hk1
  dsimp only [timesI] at HTm
  go_enter Try.func8, Try.ntmps8
  go_wp2_with fail
  refine (HK.out _).mono ?_
  rintro e w' ⟨rfl, rfl⟩
  go_wp2_with fail
  refine (H1.out _).mono ?_
  rintro e w' ⟨rfl, rfl⟩
  go_wp2_with fail
  refine (H2.out _).mono ?_
  rintro e w' ⟨rfl, rfl⟩
  go_wp2_with fail
  refine (H3.out _).mono ?_
  rintro e w' ⟨rfl, rfl⟩
  go_wp2_with fail
  refine (H4.out _).mono ?_
  rintro e w1 ⟨rfl, hb⟩
  have HB1 := hideS hb
  clear hb
  go_wp2_with fail
  refine (HTm.out _).mono ?_
  rintro e w' ⟨rfl, rfl⟩
  go_wp2_with fail
  refine (HM.out _).mono ?_
  rintro e w2 ⟨rfl, hb⟩
  have HB2 := hideS (HB1.out.trans (hb.mono HB1.out.size))
  clear hb HB1
  go_wp2_with fail
  refine (H5.out _).mono ?_
  rintro e w3 ⟨rfl, hb⟩
  have HB3 := hideS (HB2.out.trans (hb.mono HB2.out.size))
  clear hb HB2
  go_wp2_with fail
  refine (H6.out _).mono ?_
  rintro e w4 ⟨rfl, hb⟩
  have HB4 := hideS (HB3.out.trans (hb.mono HB3.out.size))
  clear hb HB3
  go_wp2_with fail
  refine (H7.out _).mono ?_
  rintro e w5 ⟨rfl, hb⟩
  have HB5 := hideS (HB4.out.trans (hb.mono HB4.out.size))
  clear hb HB4
  rcases hE with ⟨e1, e2, e3⟩ | ⟨e1, e2, e3, e4⟩ | ⟨e1, e2, e3, e4⟩
  · rw [e1] at HN
    go_wp2_with fail
    refine (HN.out _).mono ?_
    rintro e w' ⟨rfl, rfl⟩
    go_wp2_with fail
    go_ret2
    exact ⟨by rw [e2, e3]; rfl, HB5.out⟩
  · rw [e1] at HN
    rw [e2] at HZ
    go_wp2_with fail
    refine (HN.out _).mono ?_
    rintro e w' ⟨rfl, rfl⟩
    go_wp2_with fail
    refine (HZ.out _).mono ?_
    rintro e w' ⟨rfl, rfl⟩
    go_wp2_with fail
    go_ret2
    exact ⟨by rw [e3, e4]; rfl, HB5.out⟩
  · rw [e1] at HN
    generalize szI f = zz at *
    have e2' : (zz == 0) = false := beq_eq_false_iff_ne.2 e2
    go_wp2_with fail
    refine (HN.out _).mono ?_
    rintro e w' ⟨rfl, rfl⟩
    go_wp2_with fail
    refine (HZ.out _).mono ?_
    rintro e w' ⟨rfl, rfl⟩
    go_wp2_with fail
    go_ret2
    exact ⟨by rw [e3, e4]; rfl, HB5.out⟩

set_option maxHeartbeats 6400000 in
theorem refFactor_times_no (k r t mm q b : Int) (w : World) (hr : U64 r) (ht : U64 t) (h : askB r t = true) (HI : Hid (StpI 23 1048576 4697254411347427328)) (hk2 : 2 ≤ k ∧ k ≤ 5) (HM : Hid (StpI 23 (timesI k) mm)) (H5 : Hid (Stp2 28 r mm q)) (H6 : Hid (Stp2 25 4607182418800017408 q b)) (hb : U64 b) (hA : ltB 0 b = false) :
    Calls Try.prog 8 #[.int .i64 k, .int .u64 r, .int .u64 t] w fun e w' => e = .returned (.tuple #[.int .u64 0, .int .i64 91]) ∧ Below w.heap.size w w' := by
  have hk : 1 ≤ k ∧ k ≤ 6 := by omega
  have hn1 : ¬ k = 1 := by omega
  have hn6 : ¬ k = 6 := by omega
  have hq1 : (k == 1) = false := beq_eq_false_iff_ne.2 hn1
  have hq6 : (k == 6) = false := beq_eq_false_iff_ne.2 hn6
  have HA := hideS fun w => refAbove_any b w hb
  rw [hA] at HA
  clear hA hb
  have HK := hideS fun w => refKind_any k w
  rw [decide_eq_true hk] at HK
  have H1 := hideS fun w => refNum_any r w hr
  have H2 := hideS fun w => refNum_any t w ht
  have H3 := hideS fun w => refLt_any t 0 w ht (by unfold U64; omega)
  have H4 := hideS fun w => refLong_any t w ht HI
  have HTm := hideS fun w => refTimes_any k w hk
  unfold askB at h
  have hc : finB r = true ∧ finB t = true ∧ ltB t 0 = false ∧ ltB 4697254411347427328 t = false := by
    cases h1 : finB r <;> cases h2 : finB t <;> cases h3 : ltB t 0 <;> cases h4 : ltB 4697254411347427328 t <;> simp [h1, h2, h3, h4] at h ⊢
  rw [hc.1] at H1
  rw [hc.2.1] at H2
  rw [hc.2.2.1] at H3
  rw [hc.2.2.2] at H4
  clear h hc hr ht HI
  generalize timesI k = tk at *
  clear hk hk2
  go_enter Try.func8, Try.ntmps8
  go_wp2_with fail
  refine (HK.out _).mono ?_
  rintro e w' ⟨rfl, rfl⟩
  go_wp2_with fail
  refine (H1.out _).mono ?_
  rintro e w' ⟨rfl, rfl⟩
  go_wp2_with fail
  refine (H2.out _).mono ?_
  rintro e w' ⟨rfl, rfl⟩
  go_wp2_with fail
  refine (H3.out _).mono ?_
  rintro e w' ⟨rfl, rfl⟩
  go_wp2_with fail
  refine (H4.out _).mono ?_
  rintro e w1 ⟨rfl, hb⟩
  have HB1 := hideS hb
  clear hb
  go_wp2_with fail
  refine (HTm.out _).mono ?_
  rintro e w' ⟨rfl, rfl⟩
  go_wp2_with fail
  refine (HM.out _).mono ?_
  rintro e w2 ⟨rfl, hb⟩
  have HB2 := hideS (HB1.out.trans (hb.mono HB1.out.size))
  clear hb HB1
  go_wp2_with fail
  refine (H5.out _).mono ?_
  rintro e w3 ⟨rfl, hb⟩
  have HB3 := hideS (HB2.out.trans (hb.mono HB2.out.size))
  clear hb HB2
  go_wp2_with fail
  refine (H6.out _).mono ?_
  rintro e w4 ⟨rfl, hb⟩
  have HB4 := hideS (HB3.out.trans (hb.mono HB3.out.size))
  clear hb HB3
  go_wp2_with fail
  refine (HA.out _).mono ?_
  rintro e w' ⟨rfl, rfl⟩
  go_wp2_with fail
  go_ret2
  exact ⟨rfl, HB4.out⟩

set_option maxHeartbeats 6400000 in
theorem refFactor_times (k r t mm q b l p1 p2 fl f : Int) (w : World) (hr : U64 r) (ht : U64 t) (h : askB r t = true) (HI : Hid (StpI 23 1048576 4697254411347427328)) (hk2 : 2 ≤ k ∧ k ≤ 5) (HM : Hid (StpI 23 (timesI k) mm)) (H5 : Hid (Stp2 28 r mm q)) (H6 : Hid (Stp2 25 4607182418800017408 q b)) (hb : U64 b) (hA : ltB 0 b = true) (H7 : Hid (Stp2 26 mm t p1)) (H8 : Hid (Stp1 31 b l)) (H9 : Hid (Stp2 26 p1 l p2)) (H10 : Hid (Stp1 30 p2 fl)) (H11 : Hid (Stp1 29 fl f)) (hf : U64 f) :
    Calls Try.prog 8 #[.int .i64 k, .int .u64 r, .int .u64 t] w fun e w' => e = .returned (.tuple #[.int .u64 (endU f), .int .i64 (endE f)]) ∧ Below w.heap.size w w' := by
  have hk : 1 ≤ k ∧ k ≤ 6 := by omega
  have hn1 : ¬ k = 1 := by omega
  have hn6 : ¬ k = 6 := by omega
  have hq1 : (k == 1) = false := beq_eq_false_iff_ne.2 hn1
  have hq6 : (k == 6) = false := beq_eq_false_iff_ne.2 hn6
  have HA := hideS fun w => refAbove_any b w hb
  rw [hA] at HA
  clear hA hb
  have HK := hideS fun w => refKind_any k w
  rw [decide_eq_true hk] at HK
  have H1 := hideS fun w => refNum_any r w hr
  have H2 := hideS fun w => refNum_any t w ht
  have H3 := hideS fun w => refLt_any t 0 w ht (by unfold U64; omega)
  have H4 := hideS fun w => refLong_any t w ht HI
  have HTm := hideS fun w => refTimes_any k w hk
  unfold askB at h
  have hc : finB r = true ∧ finB t = true ∧ ltB t 0 = false ∧ ltB 4697254411347427328 t = false := by
    cases h1 : finB r <;> cases h2 : finB t <;> cases h3 : ltB t 0 <;> cases h4 : ltB 4697254411347427328 t <;> simp [h1, h2, h3, h4] at h ⊢
  rw [hc.1] at H1
  rw [hc.2.1] at H2
  rw [hc.2.2.1] at H3
  rw [hc.2.2.2] at H4
  clear h hc hr ht HI
  have HN := hideS fun w => refNum_any f w hf
  have HZ := hideS fun w => refSz_any f w hf
  have hE := end_cases f
  clear hf
  generalize endU f = eu at *
  generalize endE f = ee at *
  generalize timesI k = tk at *
  clear hk hk2
  go_enter Try.func8, Try.ntmps8
  go_wp2_with fail
  refine (HK.out _).mono ?_
  rintro e w' ⟨rfl, rfl⟩
  go_wp2_with fail
  refine (H1.out _).mono ?_
  rintro e w' ⟨rfl, rfl⟩
  go_wp2_with fail
  refine (H2.out _).mono ?_
  rintro e w' ⟨rfl, rfl⟩
  go_wp2_with fail
  refine (H3.out _).mono ?_
  rintro e w' ⟨rfl, rfl⟩
  go_wp2_with fail
  refine (H4.out _).mono ?_
  rintro e w1 ⟨rfl, hb⟩
  have HB1 := hideS hb
  clear hb
  go_wp2_with fail
  refine (HTm.out _).mono ?_
  rintro e w' ⟨rfl, rfl⟩
  go_wp2_with fail
  refine (HM.out _).mono ?_
  rintro e w2 ⟨rfl, hb⟩
  have HB2 := hideS (HB1.out.trans (hb.mono HB1.out.size))
  clear hb HB1
  go_wp2_with fail
  refine (H5.out _).mono ?_
  rintro e w3 ⟨rfl, hb⟩
  have HB3 := hideS (HB2.out.trans (hb.mono HB2.out.size))
  clear hb HB2
  go_wp2_with fail
  refine (H6.out _).mono ?_
  rintro e w4 ⟨rfl, hb⟩
  have HB4 := hideS (HB3.out.trans (hb.mono HB3.out.size))
  clear hb HB3
  go_wp2_with fail
  refine (HA.out _).mono ?_
  rintro e w' ⟨rfl, rfl⟩
  go_wp2_with fail
  refine (H7.out _).mono ?_
  rintro e w5 ⟨rfl, hb⟩
  have HB5 := hideS (HB4.out.trans (hb.mono HB4.out.size))
  clear hb HB4
  go_wp2_with fail
  refine (H8.out _).mono ?_
  rintro e w6 ⟨rfl, hb⟩
  have HB6 := hideS (HB5.out.trans (hb.mono HB5.out.size))
  clear hb HB5
  go_wp2_with fail
  refine (H9.out _).mono ?_
  rintro e w7 ⟨rfl, hb⟩
  have HB7 := hideS (HB6.out.trans (hb.mono HB6.out.size))
  clear hb HB6
  go_wp2_with fail
  refine (H10.out _).mono ?_
  rintro e w8 ⟨rfl, hb⟩
  have HB8 := hideS (HB7.out.trans (hb.mono HB7.out.size))
  clear hb HB7
  go_wp2_with fail
  refine (H11.out _).mono ?_
  rintro e w9 ⟨rfl, hb⟩
  have HB9 := hideS (HB8.out.trans (hb.mono HB8.out.size))
  clear hb HB8
  rcases hE with ⟨e1, e2, e3⟩ | ⟨e1, e2, e3, e4⟩ | ⟨e1, e2, e3, e4⟩
  · rw [e1] at HN
    go_wp2_with fail
    refine (HN.out _).mono ?_
    rintro e w' ⟨rfl, rfl⟩
    go_wp2_with fail
    go_ret2
    exact ⟨by rw [e2, e3]; rfl, HB9.out⟩
  · rw [e1] at HN
    rw [e2] at HZ
    go_wp2_with fail
    refine (HN.out _).mono ?_
    rintro e w' ⟨rfl, rfl⟩
    go_wp2_with fail
    refine (HZ.out _).mono ?_
    rintro e w' ⟨rfl, rfl⟩
    go_wp2_with fail
    go_ret2
    exact ⟨by rw [e3, e4]; rfl, HB9.out⟩
  · rw [e1] at HN
    generalize szI f = zz at *
    have e2' : (zz == 0) = false := beq_eq_false_iff_ne.2 e2
    go_wp2_with fail
    refine (HN.out _).mono ?_
    rintro e w' ⟨rfl, rfl⟩
    go_wp2_with fail
    refine (HZ.out _).mono ?_
    rintro e w' ⟨rfl, rfl⟩
    go_wp2_with fail
    go_ret2
    exact ⟨by rw [e3, e4]; rfl, HB9.out⟩
end Go.Proofs.Ytbkmbdbjeiffpaa
