/- The contracts of package rate's Factor, Yield and Forward. -/
import Derived.Test.YtbkmbdbjeiffpaaRaF
import Derived.Test.YtbkmbdbjeiffpaaRaD
import Derived.Test.YtbkmbdbjeiffpaaHbb
namespace Go.Proofs.Ytbkmbdbjeiffpaa
open Go.RowKit

theorem lt_ltB {x c : Nat} (h : U64 (x : Int)) (hc : U64 (c : Int)) : (FloatKind.f64.format.order x c == some .lt) = ltB (x : Int) (c : Int) := by
  unfold ltB
  cases hn : nanB (x : Int) with
  | true => rw [order_nan_left hn]; rfl
  | false =>
    cases hm : nanB (c : Int) with
    | true => rw [order_nan_right hm]; rfl
    | false => rw [lt_rank h hc hn hm]; rfl
theorem gt_ltB {x c : Nat} (h : U64 (x : Int)) (hc : U64 (c : Int)) : (FloatKind.f64.format.order x c == some .gt) = ltB (c : Int) (x : Int) := by
  unfold ltB
  cases hn : nanB (x : Int) with
  | true => rw [order_nan_left hn]; simp
  | false =>
    cases hm : nanB (c : Int) with
    | true => rw [order_nan_right hm]; rfl
    | false => rw [gt_rank h hc hn hm]; rfl

/-- What formulasOf tells of a kind that is one: the formulas, and where m lies. -/
def FormO (k : Int) (a b : Nat) (cap : Array Value) (w : World) : Prop :=
  (k = 1 ∧ a = 37 ∧ b = 38 ∧ cap = #[]) ∨ (k = 6 ∧ a = 40 ∧ b = 41 ∧ cap = #[]) ∨ ((2 ≤ k ∧ k ≤ 5) ∧ a = 59 ∧ b = 62 ∧ ∃ g, cap = #[.pointer (some ⟨g, 0, none⟩)] ∧ w.cell? ⟨g, 0, none⟩ = some (.float .f64 (mW k)) ∧ g < w.heap.size)
theorem forms_any (k : Int) (w : World) (hk : 1 ≤ k ∧ k ≤ 6) :
    Calls Try.prog 16 #[.int .i64 k] w fun e w' => ∃ a b cap, e = .returned (.tuple #[.agg #[.func (.func a) #[] cap, .func (.func b) #[] cap], .bool true]) ∧ FormO k a b cap w' ∧ Below w.heap.size w w' := by
  rcases (show k = 1 ∨ k = 6 ∨ (2 ≤ k ∧ k ≤ 5) by omega) with rfl | rfl | hm
  · exact (forms_one w).mono fun _ _ ⟨a, b⟩ => ⟨_, _, _, a, Or.inl ⟨rfl, rfl, rfl, rfl⟩, b⟩
  · exact (forms_six w).mono fun _ _ ⟨a, b⟩ => ⟨_, _, _, a, Or.inr (Or.inl ⟨rfl, rfl, rfl, rfl⟩), b⟩
  · exact (forms_m k w hm).mono fun _ _ ⟨g, a, ⟨c, d⟩, b⟩ => ⟨_, _, _, a, Or.inr (Or.inr ⟨hm, rfl, rfl, g, rfl, c, d⟩), b⟩
theorem FormO.alloc {k : Int} {a b : Nat} {cap : Array Value} {w : World} (h : FormO k a b cap w) (o : Obj) : FormO k a b cap (w.alloc o) := by
  rcases h with h | h | ⟨h1, h2, h3, g, h4, h5, h6⟩
  · exact Or.inl h
  · exact Or.inr (Or.inl h)
  · refine Or.inr (Or.inr ⟨h1, h2, h3, g, h4, ?_, ?_⟩)
    · exact ((Below.refl w.heap.size w).alloc (Nat.le_refl _) o).cell (p := ⟨g, 0, none⟩) h6 |>.trans h5
    · simp; omega

set_option maxHeartbeats 800000 in
theorem factor_kind (k : Int) (r t : Nat) (w : World) (h : ¬ (1 ≤ k ∧ k ≤ 6)) :
    Calls Try.prog 7 #[.int .i64 k, .float .f64 r, .float .f64 t] w fun e w' => e = .returned (.tuple #[.float .f64 0, .int .i64 90]) ∧ Below w.heap.size w w' := by
  have H := hideS fun w => forms_none k w h
  clear h
  go_enter Try.func7, Try.ntmps7
  go_wp2_with fail
  refine (H.out _).mono ?_
  rintro e w1 ⟨rfl, hb⟩
  go_wp2_with fail
  go_ret2
  exact ⟨rfl, hb.alloc hb.size _⟩

set_option maxHeartbeats 3200000 in
theorem factor_bad (k : Int) (r t : Nat) (w : World) (hk : 1 ≤ k ∧ k ≤ 6) (hr : r < 18446744073709551616) (ht : t < 18446744073709551616) (ask : askB (r : Int) (t : Int) = false) :
    Calls Try.prog 7 #[.int .i64 k, .float .f64 r, .float .f64 t] w fun e w' => e = .returned (.tuple #[.float .f64 0, .int .i64 91]) ∧ Below w.heap.size w w' := by
  have H := hideS fun w => forms_any k w hk
  have H1 := hideS fun w => isNum_any r w (u64_of_nat hr)
  have H2 := hideS fun w => isNum_any t w (u64_of_nat ht)
  have o1 : (FloatKind.f64.format.order t 0 == some .lt) = ltB (t : Int) 0 := lt_ltB (c := 0) (u64_of_nat ht) (by unfold U64; omega)
  have o2 : (FloatKind.f64.format.order t 4697254411347427328 == some .gt) = ltB 4697254411347427328 (t : Int) := gt_ltB (c := 4697254411347427328) (u64_of_nat ht) (by unfold U64; omega)
  unfold askB at ask
  generalize finB (r : Int) = b1 at *
  generalize finB (t : Int) = b2 at *
  generalize ltB (t : Int) 0 = b3 at *
  generalize ltB 4697254411347427328 (t : Int) = b4 at *
  clear hr ht hk
  have hc : b1 = false ∨ (b1 = true ∧ b2 = false) ∨ (b1 = true ∧ b2 = true ∧ b3 = true) ∨ (b1 = true ∧ b2 = true ∧ b3 = false ∧ b4 = true) := by
    cases b1 <;> cases b2 <;> cases b3 <;> cases b4 <;> simp at ask ⊢
  clear ask
  rcases hc with rfl | ⟨rfl, rfl⟩ | ⟨rfl, rfl, rfl⟩ | ⟨rfl, rfl, rfl, rfl⟩
  all_goals
    go_enter Try.func7, Try.ntmps7
    go_wp2_with fail
    refine (H.out _).mono ?_
    rintro e w1 ⟨a, b, cap, rfl, _, hb⟩
    have HB : Hid (∀ o, Below w.heap.size w (w1.alloc o)) := fun o => hb.alloc hb.size o
    clear hb
    go_wp2_with (first | (go_at_call_of 17 (Value.float FloatKind.f64 r); refine (H1.out _).mono ?_; rintro e w' ⟨rfl, rfl⟩) | (go_at_call 17; refine (H2.out _).mono ?_; rintro e w' ⟨rfl, rfl⟩))
    go_ret2
    exact ⟨rfl, HB.out _⟩

theorem num_fin {x : Nat} (h : finB (x : Int) = true) : NumB x := by
  unfold finB at h
  rw [szI_nat] at h
  have := of_decide_eq_true h
  unfold NumB; omega
theorem ask_cases {r t : Int} (ask : askB r t = true) : finB r = true ∧ finB t = true ∧ ltB t 0 = false ∧ ltB 4697254411347427328 t = false := by
  unfold askB at ask
  cases h1 : finB r <;> cases h2 : finB t <;> cases h3 : ltB t 0 <;> cases h4 : ltB 4697254411347427328 t <;> simp [h1, h2, h3, h4] at ask ⊢
theorem one_num : NumB 4607182418800017408 := by unfold NumB; decide
theorem one_sign : sB 4607182418800017408 = false := by decide
theorem rank_sign {b : Nat} (hb : b < 18446744073709551616) (hn : nanB (b : Int) = false) (h : 0 < rankI (b : Int)) : sB b = false ∧ b % 9223372036854775808 ≠ 0 := by
  have e := sgn_rank hb hn
  have e2 : (b / 9223372036854775808 % 2 == 1) = sB b := rfl
  rw [e2] at e
  rw [← e] at h
  unfold sgn at h
  cases hs : sB b with
  | true => rw [hs] at h; simp at h; omega
  | false => rw [hs] at h; simp at h; exact ⟨rfl, by omega⟩
theorem quo_up_one {b f : Nat} (hb : b < 18446744073709551616) (hn : nanB (b : Int) = false) (h : 0 < rankI (b : Int)) (hf : floatBits .quo .f64 4607182418800017408 b = some f) : nanB (f : Int) = false ∧ 0 ≤ rankI (f : Int) ∧ f < 18446744073709551616 := by
  obtain ⟨h1, h2⟩ := rank_sign hb hn h
  have hl := nan_false hn
  by_cases c : NumB b
  · obtain ⟨r, e, k1, k2, k3⟩ := quo_rank one_num c h2
    rw [hf] at e
    obtain rfl := Option.some.inj e
    refine ⟨k3, ?_, k2⟩
    rw [k1, one_sign, h1]
    show 0 ≤ sgZ false _
    unfold sgZ; simp
  · have hi : b % 9223372036854775808 = 9218868437227405312 := by unfold NumB at c; omega
    rw [quo_by_inf one_num hi, one_sign, h1] at hf
    obtain rfl := Option.some.inj hf
    exact up_of (by decide)
theorem sim_up (r t : Nat) : UpO (simO r t) := by
  intro f hf
  unfold simO at hf
  cases hl : leB (simB r t) with
  | true => rw [hl, if_pos rfl] at hf; obtain rfl := Option.some.inj hf; exact up_of (by decide)
  | false =>
    rw [hl, if_neg (by decide)] at hf
    cases hb : simB r t with
    | none => rw [hb] at hf; cases hf
    | some b =>
      rw [hb] at hf hl
      have hq : floatBits .quo .f64 4607182418800017408 b = some f := hf
      have b64 : b < 18446744073709551616 := opO_some_lt (by simp) hb
      cases hn : nanB (b : Int) with
      | true => rw [nan_right hn] at hq; cases hq
      | false =>
        rw [leB_some, hn] at hl
        simp at hl
        exact quo_up_one b64 hn hl hq
theorem neg_lt {o : Option Nat} (h : ∀ r, o = some r → r < 18446744073709551616) : ∀ r, negO o = some r → r < 18446744073709551616 := by
  intro r hr
  cases o with
  | none => cases hr
  | some x =>
    have e : flipN x = r := Option.some.inj hr
    rw [← e]; exact (flip_parts (h x rfl)).1
theorem con_up (r t : Nat) : UpO (conO r t) := exp_up _ (neg_lt fun _ hr => opO_some_lt (by simp) hr)
theorem tim_up (m r t : Nat) : UpO (timO m r t) := by
  unfold timO
  split
  · intro f hf; obtain rfl := Option.some.inj hf; exact up_of (by decide)
  · exact exp_up _ (neg_lt fun _ hr => opO_some_lt (by simp) hr)
theorem fac_up (k : Int) (r t : Nat) : UpO (facO k r t) := by
  unfold facO
  split
  · exact sim_up r t
  · split
    · exact con_up r t
    · exact tim_up _ r t
theorem mW_num (k : Int) : NumB (mW k) := by unfold mW NumB; split <;> (try split) <;> (try split) <;> decide
theorem mt_some (k : Int) {t : Nat} (ht : NumB t) : ∃ p, floatBits .mul .f64 (mW k) t = some p := ⟨_, mul_num (mW_num k) ht⟩

/-- What the formula of factors tells, whatever the kind. -/
theorem form_factor {k : Int} {a b : Nat} {cap : Array Value} {r t : Nat} (hr : r < 18446744073709551616) (ht : t < 18446744073709551616) (hn : NumB t) (w : World) (h : FormO k a b cap w) :
    Calls Try.prog a (#[.float .f64 r, .float .f64 t] ++ cap) w fun e w' => ∃ f, e = .returned (.float .f64 f) ∧ AgU (facO k r t) f ∧ Below w.heap.size w w' := by
  rcases h with ⟨rfl, rfl, rfl, rfl⟩ | ⟨rfl, rfl, rfl, rfl⟩ | ⟨hk, rfl, rfl, g, rfl, hc, hg⟩
  · unfold facO; rw [if_pos rfl]; exact simpleFactor_ag r t w hr ht
  · unfold facO; rw [if_neg (by decide), if_pos rfl]; exact contFactor_ag r t w hr ht
  · unfold facO; rw [if_neg (by omega), if_neg (by omega)]
    obtain ⟨p, hp⟩ := mt_some k hn
    exact compFactor_ag (mW k) r t p g w (mW_lt k) hr hp hc hg
theorem form_yield {k : Int} {a b : Nat} {cap : Array Value} {f t : Nat} (hf : f < 18446744073709551616) (ht : t < 18446744073709551616) (hn : NumB t) (w : World) (h : FormO k a b cap w) :
    Calls Try.prog b (#[.float .f64 f, .float .f64 t] ++ cap) w fun e w' => ∃ r, e = .returned (.float .f64 r) ∧ AgU (yieO k f t) r ∧ Below w.heap.size w w' := by
  rcases h with ⟨rfl, rfl, rfl, rfl⟩ | ⟨rfl, rfl, rfl, rfl⟩ | ⟨hk, rfl, rfl, g, rfl, hc, hg⟩
  · unfold yieO; rw [if_pos rfl]; exact simpleYield_ag f t w hf ht
  · unfold yieO; rw [if_neg (by decide), if_pos rfl]; exact contYield_ag f t w hf ht
  · unfold yieO; rw [if_neg (by omega), if_neg (by omega)]
    obtain ⟨p, hp⟩ := mt_some k hn
    exact compYield_ag (mW k) f t p g w (mW_lt k) hf hp hc hg

set_option maxHeartbeats 3200000 in
theorem factor_ok (k : Int) (r t z : Nat) (w : World) (hk : 1 ≤ k ∧ k ≤ 6) (hr : r < 18446744073709551616) (ht : t < 18446744073709551616) (ask : askB (r : Int) (t : Int) = true) (hz : Ag (facO k r t) z) :
    Calls Try.prog 7 #[.int .i64 k, .float .f64 r, .float .f64 t] w fun e w' => e = .returned (.tuple #[.float .f64 (endN z), .int .i64 (endE (z : Int))]) ∧ Below w.heap.size w w' := by
  have H := hideS fun w => forms_any k w hk
  have H1 := hideS fun w => isNum_any r w (u64_of_nat hr)
  have H2 := hideS fun w => isNum_any t w (u64_of_nat ht)
  have o1 : (FloatKind.f64.format.order t 0 == some .lt) = ltB (t : Int) 0 := lt_ltB (c := 0) (u64_of_nat ht) (by unfold U64; omega)
  have o2 : (FloatKind.f64.format.order t 4697254411347427328 == some .gt) = ltB 4697254411347427328 (t : Int) := gt_ltB (c := 4697254411347427328) (u64_of_nat ht) (by unfold U64; omega)
  obtain ⟨h1, h2, h3, h4⟩ := ask_cases ask
  have HF : Hid (∀ w a b cap, FormO k a b cap w → Calls Try.prog a (#[.float .f64 r, .float .f64 t] ++ cap) w fun e w' => ∃ f, e = .returned (.float .f64 f) ∧ (endN f = endN z ∧ endE (f : Int) = endE (z : Int) ∧ U64 (f : Int) ∧ posB (f : Int) = decide (finB (f : Int) = true ∧ szI (f : Int) ≠ 0)) ∧ Below w.heap.size w w') := fun w a b cap hf => by
    refine (form_factor hr ht (num_fin h2) w hf).mono ?_
    rintro _ w' ⟨f, rfl, hag, hb⟩
    obtain ⟨e1, e2⟩ := end_ag hag.1 hz
    exact ⟨f, rfl, ⟨e1, e2, hag.u, pos_end hag (fac_up k r t)⟩, hb⟩
  rw [h1] at H1
  rw [h2] at H2
  rw [h3] at o1
  rw [h4] at o2
  generalize endN z = E at *
  generalize endE (z : Int) = F at *
  clear hr ht hk ask h1 h2 h3 h4 hz
  go_enter Try.func7, Try.ntmps7
  go_wp2_with fail
  refine (H.out _).mono ?_
  rintro e w1 ⟨a, b, cap, rfl, hfo, hb⟩
  have HB : Hid (∀ o, Below w.heap.size w (w1.alloc o)) := fun o => hb.alloc hb.size o
  have HO := hideS fun o => hfo.alloc o
  clear hb
  rcases hfo with ⟨rfl, rfl, rfl, rfl⟩ | ⟨rfl, rfl, rfl, rfl⟩ | ⟨_, rfl, rfl, g, rfl, _, _⟩
  all_goals
    go_wp2_with (first | (go_at_call_of 17 (Value.float FloatKind.f64 r); refine (H1.out _).mono ?_; rintro e w' ⟨rfl, rfl⟩) | (go_at_call 17; refine (H2.out _).mono ?_; rintro e w' ⟨rfl, rfl⟩))
    refine (HF.out _ _ _ _ (HO.out _)).mono ?_
    rintro e w2 ⟨f, rfl, ⟨e1, e2, hu, hp⟩, hb2⟩
    have B2 := hideS ((HB.out _).trans (hb2.mono (HB.out _).size))
    have HP := hideS fun w => isPos_any f w hu
    rw [hp] at HP
    clear hb2 HB HO hp hu
    by_cases c : finB (f : Int) = true ∧ szI (f : Int) ≠ 0
    · rw [decide_eq_true c] at HP
      have r1 : Hid (E = f) := e1.symm.trans (by unfold endN; rw [if_pos c])
      have r2 : Hid (F = 0) := e2.symm.trans (by unfold endE; rw [if_pos c])
      clear c e1 e2
      go_wp2_with fail
      refine (HP.out _).mono ?_
      rintro e w' ⟨rfl, rfl⟩
      go_wp2_with fail
      go_ret2
      exact ⟨by rw [r1.out, r2.out]; rfl, B2.out⟩
    · rw [decide_eq_false c] at HP
      have r1 : Hid (E = 0) := e1.symm.trans (by unfold endN; rw [if_neg c])
      have r2 : Hid (F = 91) := e2.symm.trans (by unfold endE; rw [if_neg c])
      clear c e1 e2
      go_wp2_with fail
      refine (HP.out _).mono ?_
      rintro e w' ⟨rfl, rfl⟩
      go_wp2_with fail
      go_ret2
      exact ⟨by rw [r1.out, r2.out]; rfl, B2.out⟩

set_option maxHeartbeats 800000 in
theorem yield_kind (k : Int) (f t : Nat) (w : World) (h : ¬ (1 ≤ k ∧ k ≤ 6)) :
    Calls Try.prog 12 #[.int .i64 k, .float .f64 f, .float .f64 t] w fun e w' => e = .returned (.tuple #[.float .f64 0, .int .i64 90]) ∧ Below w.heap.size w w' := by
  have H := hideS fun w => forms_none k w h
  clear h
  go_enter Try.func12, Try.ntmps12
  go_wp2_with fail
  refine (H.out _).mono ?_
  rintro e w1 ⟨rfl, hb⟩
  go_wp2_with fail
  go_ret2
  exact ⟨rfl, hb.alloc hb.size _⟩

theorem asy_pos (f t : Int) : asyB f t = (posB f && posB t && !ltB 4697254411347427328 t) := by
  unfold asyB posB
  cases finB f <;> cases ltB 0 f <;> cases finB t <;> cases ltB 0 t <;> rfl

set_option maxHeartbeats 3200000 in
theorem yield_bad (k : Int) (f t : Nat) (w : World) (hk : 1 ≤ k ∧ k ≤ 6) (hf : f < 18446744073709551616) (ht : t < 18446744073709551616) (ask : asyB (f : Int) (t : Int) = false) :
    Calls Try.prog 12 #[.int .i64 k, .float .f64 f, .float .f64 t] w fun e w' => e = .returned (.tuple #[.float .f64 0, .int .i64 91]) ∧ Below w.heap.size w w' := by
  have H := hideS fun w => forms_any k w hk
  have H1 := hideS fun w => isPos_any f w (u64_of_nat hf)
  have H2 := hideS fun w => isPos_any t w (u64_of_nat ht)
  have o2 : (FloatKind.f64.format.order t 4697254411347427328 == some .gt) = ltB 4697254411347427328 (t : Int) := gt_ltB (c := 4697254411347427328) (u64_of_nat ht) (by unfold U64; omega)
  rw [asy_pos] at ask
  generalize posB (f : Int) = b1 at *
  generalize posB (t : Int) = b2 at *
  generalize ltB 4697254411347427328 (t : Int) = b4 at *
  clear hf ht hk
  have hc : b1 = false ∨ (b1 = true ∧ b2 = false) ∨ (b1 = true ∧ b2 = true ∧ b4 = true) := by
    cases b1 <;> cases b2 <;> cases b4 <;> simp at ask ⊢
  clear ask
  rcases hc with rfl | ⟨rfl, rfl⟩ | ⟨rfl, rfl, rfl⟩
  all_goals
    go_enter Try.func12, Try.ntmps12
    go_wp2_with fail
    refine (H.out _).mono ?_
    rintro e w1 ⟨a, b, cap, rfl, _, hb⟩
    have HB : Hid (∀ o, Below w.heap.size w (w1.alloc o)) := fun o => hb.alloc hb.size o
    clear hb
    go_wp2_with (first | (go_at_call_of 18 (Value.float FloatKind.f64 f); refine (H1.out _).mono ?_; rintro e w' ⟨rfl, rfl⟩) | (go_at_call 18; refine (H2.out _).mono ?_; rintro e w' ⟨rfl, rfl⟩))
    go_ret2
    exact ⟨rfl, HB.out _⟩

set_option maxHeartbeats 3200000 in
theorem yield_ok (k : Int) (f t z : Nat) (w : World) (hk : 1 ≤ k ∧ k ≤ 6) (hf : f < 18446744073709551616) (ht : t < 18446744073709551616) (ask : asyB (f : Int) (t : Int) = true) (hz : Ag (yieO k f t) z) :
    Calls Try.prog 12 #[.int .i64 k, .float .f64 f, .float .f64 t] w fun e w' => e = .returned (.tuple #[.float .f64 (enyN z), .int .i64 (enyE (z : Int))]) ∧ Below w.heap.size w w' := by
  have H := hideS fun w => forms_any k w hk
  have H1 := hideS fun w => isPos_any f w (u64_of_nat hf)
  have H2 := hideS fun w => isPos_any t w (u64_of_nat ht)
  have o2 : (FloatKind.f64.format.order t 4697254411347427328 == some .gt) = ltB 4697254411347427328 (t : Int) := gt_ltB (c := 4697254411347427328) (u64_of_nat ht) (by unfold U64; omega)
  rw [asy_pos] at ask
  have hc : posB (f : Int) = true ∧ posB (t : Int) = true ∧ ltB 4697254411347427328 (t : Int) = false := by
    cases h1 : posB (f : Int) <;> cases h2 : posB (t : Int) <;> cases h4 : ltB 4697254411347427328 (t : Int) <;> simp [h1, h2, h4] at ask ⊢
  obtain ⟨h1, h2, h4⟩ := hc
  have hfin : finB (t : Int) = true := by
    unfold posB at h2
    exact (Bool.and_eq_true_iff.1 h2).1
  have HF : Hid (∀ w a b cap, FormO k a b cap w → Calls Try.prog b (#[.float .f64 f, .float .f64 t] ++ cap) w fun e w' => ∃ r, e = .returned (.float .f64 r) ∧ (enyN r = enyN z ∧ enyE (r : Int) = enyE (z : Int) ∧ U64 (r : Int)) ∧ Below w.heap.size w w') := fun w a b cap hfo => by
    refine (form_yield hf ht (num_fin hfin) w hfo).mono ?_
    rintro _ w' ⟨r, rfl, hag, hb⟩
    obtain ⟨e1, e2⟩ := eny_ag hag.1 hz
    exact ⟨r, rfl, ⟨e1, e2, hag.u⟩, hb⟩
  rw [h1] at H1
  rw [h2] at H2
  rw [h4] at o2
  generalize enyN z = E at *
  generalize enyE (z : Int) = F at *
  clear hf ht hk ask h1 h2 h4 hz hfin
  go_enter Try.func12, Try.ntmps12
  go_wp2_with fail
  refine (H.out _).mono ?_
  rintro e w1 ⟨a, b, cap, rfl, hfo, hb⟩
  have HB : Hid (∀ o, Below w.heap.size w (w1.alloc o)) := fun o => hb.alloc hb.size o
  have HO := hideS fun o => hfo.alloc o
  clear hb
  rcases hfo with ⟨rfl, rfl, rfl, rfl⟩ | ⟨rfl, rfl, rfl, rfl⟩ | ⟨_, rfl, rfl, g, rfl, _, _⟩
  all_goals
    go_wp2_with (first | (go_at_call_of 18 (Value.float FloatKind.f64 f); refine (H1.out _).mono ?_; rintro e w' ⟨rfl, rfl⟩) | (go_at_call 18; refine (H2.out _).mono ?_; rintro e w' ⟨rfl, rfl⟩))
    refine (HF.out _ _ _ _ (HO.out _)).mono ?_
    rintro e w2 ⟨r, rfl, ⟨e1, e2, hu⟩, hb2⟩
    have B2 := hideS ((HB.out _).trans (hb2.mono (HB.out _).size))
    have HN := hideS fun w => number_any r w hu
    rw [e1, e2] at HN
    clear hb2 HB HO hu e1 e2
    go_wp2_with fail
    refine (HN.out _).mono ?_
    rintro e w' ⟨rfl, rfl⟩
    go_wp2_with fail
    go_ret2
    exact ⟨rfl, B2.out⟩

set_option maxHeartbeats 1600000 in
theorem forward_bad (a b c : Nat) (w : World) (ha : a < 18446744073709551616) (hb : b < 18446744073709551616) (hc : c < 18446744073709551616) (ask : (posB (a : Int) && posB (b : Int) && posB (c : Int)) = false) :
    Calls Try.prog 15 #[.float .f64 a, .float .f64 b, .float .f64 c] w fun e w' => e = .returned (.tuple #[.float .f64 0, .int .i64 91]) ∧ Below w.heap.size w w' := by
  have H1 := hideS fun w => isPos_any a w (u64_of_nat ha)
  have H2 := hideS fun w => isPos_any b w (u64_of_nat hb)
  have H3 := hideS fun w => isPos_any c w (u64_of_nat hc)
  generalize posB (a : Int) = b1 at *
  generalize posB (b : Int) = b2 at *
  generalize posB (c : Int) = b3 at *
  clear ha hb hc
  have hcs : b1 = false ∨ (b1 = true ∧ b2 = false) ∨ (b1 = true ∧ b2 = true ∧ b3 = false) := by
    cases b1 <;> cases b2 <;> cases b3 <;> simp at ask ⊢
  clear ask
  rcases hcs with rfl | ⟨rfl, rfl⟩ | ⟨rfl, rfl, rfl⟩
  · go_enter Try.func15, Try.ntmps15
    go_wp2_with fail
    refine (H1.out _).mono ?_
    rintro e w' ⟨rfl, rfl⟩
    go_wp2_with fail
    go_ret2
    exact ⟨rfl, Below.refl _ _⟩
  · go_enter Try.func15, Try.ntmps15
    go_wp2_with fail
    refine (H1.out _).mono ?_
    rintro e w' ⟨rfl, rfl⟩
    go_wp2_with fail
    refine (H2.out _).mono ?_
    rintro e w' ⟨rfl, rfl⟩
    go_wp2_with fail
    go_ret2
    exact ⟨rfl, Below.refl _ _⟩
  · go_enter Try.func15, Try.ntmps15
    go_wp2_with fail
    refine (H1.out _).mono ?_
    rintro e w' ⟨rfl, rfl⟩
    go_wp2_with fail
    refine (H2.out _).mono ?_
    rintro e w' ⟨rfl, rfl⟩
    go_wp2_with fail
    refine (H3.out _).mono ?_
    rintro e w' ⟨rfl, rfl⟩
    go_wp2_with fail
    go_ret2
    exact ⟨rfl, Below.refl _ _⟩

set_option maxHeartbeats 1600000 in
theorem forward_ok (a b c z : Nat) (w : World) (ha : a < 18446744073709551616) (hb : b < 18446744073709551616) (hc : c < 18446744073709551616) (ask : (posB (a : Int) && posB (b : Int) && posB (c : Int)) = true) (hz : Ag (fwdO a b c) z) :
    Calls Try.prog 15 #[.float .f64 a, .float .f64 b, .float .f64 c] w fun e w' => e = .returned (.tuple #[.float .f64 (enyN z), .int .i64 (enyE (z : Int))]) ∧ Below w.heap.size w w' := by
  have H1 := hideS fun w => turned (isPos_any a w (u64_of_nat ha))
  have H2 := hideS fun w => turned (isPos_any b w (u64_of_nat hb))
  have H3 := hideS fun w => turned (isPos_any c w (u64_of_nat hc))
  have hcs : posB (a : Int) = true ∧ posB (b : Int) = true ∧ posB (c : Int) = true := by
    cases h1 : posB (a : Int) <;> cases h2 : posB (b : Int) <;> cases h3 : posB (c : Int) <;> simp [h1, h2, h3] at ask ⊢
  obtain ⟨h1, h2, h3⟩ := hcs
  rw [h1] at H1
  rw [h2] at H2
  rw [h3] at H3
  obtain ⟨q, ⟨q1, r1⟩, g1⟩ := op_prog .quo (by simp) 22 (agU_some ha) (agU_some hb) w
  obtain ⟨d, ⟨q2, r2⟩, g2⟩ := op_prog .sub (by simp) 22 g1 agU_one (w.drewN q1)
  obtain ⟨y, ⟨q3, r3⟩, g3⟩ := op_prog .quo (by simp) 22 g2 (agU_some hc) ((w.drewN q1).drewN q2)
  rw [World.drewN_drewN] at r3
  obtain ⟨e1, e2⟩ := eny_ag (o := fwdO a b c) g3.1 hz
  have HN := hideS fun w => number_any y w g3.u
  rw [e1, e2] at HN
  have HB : Hid (∀ q, Below w.heap.size w (w.drewN q)) := below_dN (Below.refl _ _)
  clear ha hb hc ask hz e1 e2 g1 g2 g3 h1 h2 h3
  generalize enyN z = E at *
  generalize enyE (z : Int) = F at *
  go_enter Try.func15, Try.ntmps15
  go_wp2_with fail
  refine (H1.out _).mono ?_
  rintro e w' ⟨rfl, rfl⟩
  go_wp2_with fail
  refine (H2.out _).mono ?_
  rintro e w' ⟨rfl, rfl⟩
  go_wp2_with fail
  refine (H3.out _).mono ?_
  rintro e w' ⟨rfl, rfl⟩
  go_wp2_with fail
  refine (HN.out _).mono ?_
  rintro e w' ⟨rfl, rfl⟩
  go_wp2_with fail
  go_ret2
  exact ⟨rfl, HB.out _⟩
end Go.Proofs.Ytbkmbdbjeiffpaa
