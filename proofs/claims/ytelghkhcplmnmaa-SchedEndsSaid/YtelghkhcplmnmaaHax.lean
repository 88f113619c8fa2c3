/- The contracts of the almanac's walk, nearest, nearestOfMonth and count. The contracts of nearest, isSameMonth, nearestOfMonth and count. -/
import Derived.Test.YtelghkhcplmnmaaHaw
namespace Go.Proofs.Ytelghkhcplmnmaa
open Go.RowKit

theorem srch_out {op : Int → Bool} {x s : Int} (h : ¬ isDayP x) : srch op x s = none :=
  srch_eq (.none 0 (fun j hj => by omega) (by simpa using h))
theorem srch_hit {op : Int → Bool} {x s : Int} (h : isDayP x) (ho : op x = true) : srch op x s = some x := by
  have e : x + s * ((0 : Nat) : Int) = x := by simp
  have := srch_eq (op := op) (n := x) (s := s) (.hit 0 (fun j hj => by omega) (by rw [e]; exact h) (by rw [e]; exact ho))
  rw [e] at this; exact this
theorem srch_shut {op : Int → Bool} {x s : Int} (hs : s = 1 ∨ s = -1) (h : isDayP x) (ho : op x = false) : srch op x s = srch op (x + s) s := by
  have hx0 := h.1
  have hx1 := h.2
  have h2 := srch_is op (x + s) s hs (by omega) (by omega)
  have st : ∀ k : Nat, x + s + s * (k : Int) = x + s * ((k + 1 : Nat) : Int) := fun k => by
    rw [Int.natCast_add, Int.mul_add]; omega
  have lo : ∀ k, (∀ j < k, isDayP (x + s + s * (j : Nat)) ∧ op (x + s + s * (j : Nat)) = false) → ∀ j < k + 1, isDayP (x + s * (j : Nat)) ∧ op (x + s * (j : Nat)) = false := fun k a j hj => by
    cases j with
    | zero => rw [show x + s * ((0 : Nat) : Int) = x by simp]; exact ⟨h, ho⟩
    | succ j => rw [← st]; exact a j (by omega)
  generalize hR : srch op (x + s) s = R at h2
  cases h2 with
  | hit k a b c =>
    refine (srch_eq (.hit (k + 1) (lo k a) (by rw [← st]; exact b) (by rw [← st]; exact c))).trans ?_
    rw [← st]
  | none k a b => exact srch_eq (.none (k + 1) (lo k a) (by rw [← st]; exact b))
theorem addO_out {op : Int → Bool} {x s : Int} {K : Nat} (h : ¬ isDayP x) : addO op s (K + 1) (x - s) = none :=
  addO_none (by rw [show x - s + s = x by omega]; exact srch_out h)
theorem addO_hit {op : Int → Bool} {x s : Int} {K : Nat} (h : isDayP x) (ho : op x = true) : addO op s (K + 1) (x - s) = addO op s K x :=
  addO_some (by rw [show x - s + s = x by omega]; exact srch_hit h ho)
theorem addO_shut {op : Int → Bool} {x s : Int} {K : Nat} (hs : s = 1 ∨ s = -1) (h : isDayP x) (ho : op x = false) : addO op s (K + 1) (x - s) = addO op s (K + 1) x := by
  show (match srch op (x - s + s) s with | none => none | some x => addO op s K x) = (match srch op (x + s) s with | none => none | some x => addO op s K x)
  rw [show x - s + s = x by omega, srch_shut hs h ho]
theorem addO_one (op : Int → Bool) (s n : Int) : addO op s 1 n = srch op (n + s) s := by
  show (match srch op (n + s) s with | none => none | some x => addO op s 0 x) = _
  cases srch op (n + s) s <;> rfl
theorem ans_none : (((none : Option Int).getD 0) = 0) ∧ ansE none = 51 := ⟨rfl, rfl⟩
theorem ans_some (x : Int) : (((some x : Option Int).getD 0) = x) ∧ ansE (some x) = 0 := ⟨rfl, rfl⟩

/-- What the almanac's open tells, whatever it is. -/
def OpH (A : Nat) (op : Int → Bool) (E : World → Prop) : Prop :=
  ∀ x w, isDayP x → E w → Calls Try.prog 54 #[.pointer (some ⟨A, 0, none⟩), .int .i64 x] w fun e w' => e = .returned (.bool (op x)) ∧ E w' ∧ Below A w w'
theorem opH (A : Nat) (W : Int) (p : Option Addr) (b off c : Nat) (rs : List Rul) : OpH A (opB W rs) (AlmE A W p b off c rs) :=
  fun x w hx hE => open_any A W x p b off c rs w hE hx

set_option maxHeartbeats 1600000 in
theorem walk_any (A : Nat) (op : Int → Bool) (E : World → Prop) (n k s : Int) (w : World) (HO : Hid (OpH A op E)) (HE : Hid (E w)) (hn : isDayP n) (hk : k ≠ 0) (k0 : -9223372036854775808 ≤ k) (k1 : k ≤ 9223372036854775807) (hs : s = if k < 0 then -1 else 1) :
    Calls Try.prog 55 #[.pointer (some ⟨A, 0, none⟩), .int .i64 n, .int .i64 k] w fun e w' => e = .returned (.tuple #[.int .i64 ((addO op s k.natAbs n).getD 0), .int .i64 (ansE (addO op s k.natAbs n))]) ∧ E w' ∧ Below A w w' := by
  have HD := hideS (fun x wx => isDay6_any x wx)
  obtain ⟨R, hR⟩ : ∃ R, addO op s k.natAbs n = R := ⟨_, rfl⟩
  rw [hR]
  have HR := hideS hR
  clear hR
  have n0 := hn.1
  have n1 := hn.2
  clear hn
  obtain ⟨X, hX⟩ : ∃ X, R.getD 0 = X := ⟨_, rfl⟩
  obtain ⟨Z, hZ⟩ : ∃ Z, ansE R = Z := ⟨_, rfl⟩
  rw [hX, hZ]
  have HXZ := hideS (And.intro hX hZ)
  clear hX hZ
  by_cases hneg : k < 0
  · rw [if_pos hneg] at hs
    subst hs
    go_enter Try.func55, Try.ntmps55
    go_wp2_with fail
    go_loopw [1, 2] (fun i q wr => ∃ (x r : Int), -1 ≤ x ∧ x ≤ 109573 ∧ -9223372036854775808 ≤ r ∧ r < 0 ∧ i = .int .i64 x ∧ q = .int .i64 r ∧ Hid (E wr) ∧ Hid (Below A w wr) ∧ Hid (addO op (-1) r.natAbs (x - (-1)) = R)) (fun i _ _ => (intOf i + 2).toNat)
    case atStart => exact ⟨n - 1, k, by omega, by omega, by omega, by omega, rfl, rfl, HE, Below.refl _ _, by show _ = _; rw [show n - 1 - (-1) = n by omega]; exact HR.out⟩
    case round =>
      clear HE HR
      obtain ⟨x, r, x0, x1, r0, r1, rfl, rfl, HE, HB, HA⟩ := hrel
      have HDx := hideS (fun wx => HD.out x wx)
      obtain ⟨K, hK⟩ : ∃ K, r.natAbs = K + 1 := ⟨r.natAbs - 1, by omega⟩
      have HK := hideS hK
      rw [hK] at HA
      clear hK
      by_cases hx : isDayP x
      · rw [decide_eq_true hx] at HDx
        have HOx := hideS (HO.out x wr hx HE.out)
        have x00 := hx.1
        cases hop : op x
        · rw [hop] at HOx
          have HA' : Hid (addO op (-1) r.natAbs (x - 1 - (-1)) = R) := by
            show _ = _
            rw [HK.out, show x - 1 - (-1) = x by omega, ← addO_shut (Or.inr rfl) hx hop]; exact HA.out
          have hr0 : (r == 0) = false := beq_eq_false_iff_ne.2 (by omega)
          clear hx hop HA
          go_wp2_with (first | (go_at_call 33; refine (turnedQ (HDx.out _)).mono ?_; rintro e w1 ⟨rfl, rfl⟩) | (go_at_call 54; refine HOx.out.mono ?_; rintro e w1 ⟨rfl, hE1, hb1⟩))
          have HE1 := hideS hE1
          have HB1 := hideS (HB.out.trans hb1)
          clear hE1 hb1
          go_roundw
          case rel => exact ⟨x - 1, r, by omega, by omega, by omega, by omega, rfl, rfl, HE1, HB1, HA'⟩
          case measure => simp [intOf]; omega
        · rw [hop] at HOx
          have HA0 : Hid (addO op (-1) K x = R) := by
            show _ = _
            rw [← addO_hit hx hop]; exact HA.out
          by_cases hr1 : r = -1
          · have HRx : Hid (x = X ∧ 0 = Z) := by
              have e : K = 0 := by have := HK.out; omega
              obtain ⟨hX, hZ⟩ := HXZ.out
              have e2 := HA0.out
              rw [e] at e2
              have e3 : some x = R := e2
              rw [← hX, ← hZ, ← e3]; exact ⟨rfl, rfl⟩
            subst hr1
            clear hx hop HA HA0
            go_wp2_with (first | (go_at_call 33; refine (turnedQ (HDx.out _)).mono ?_; rintro e w1 ⟨rfl, rfl⟩) | (go_at_call 54; refine HOx.out.mono ?_; rintro e w1 ⟨rfl, hE1, hb1⟩))
            go_ret2
            obtain ⟨rfl, rfl⟩ := HRx.out
            exact ⟨rfl, hE1, HB.out.trans hb1⟩
          · have HA' : Hid (addO op (-1) (r + 1).natAbs (x - 1 - (-1)) = R) := by
              show _ = _
              rw [show x - 1 - (-1) = x by omega, show (r + 1).natAbs = K by have := HK.out; omega]; exact HA0.out
            have hr0 : (r + 1 == 0) = false := beq_eq_false_iff_ne.2 (by omega)
            clear hx hop HA HA0
            go_wp2_with (first | (go_at_call 33; refine (turnedQ (HDx.out _)).mono ?_; rintro e w1 ⟨rfl, rfl⟩) | (go_at_call 54; refine HOx.out.mono ?_; rintro e w1 ⟨rfl, hE1, hb1⟩))
            have HE1 := hideS hE1
            have HB1 := hideS (HB.out.trans hb1)
            clear hE1 hb1
            go_roundw
            case rel => exact ⟨x - 1, r + 1, by omega, by omega, by omega, by omega, rfl, rfl, HE1, HB1, HA'⟩
            case measure => simp [intOf]; omega
      · rw [decide_eq_false hx] at HDx
        have HRx : Hid (0 = X ∧ 51 = Z) := by
          obtain ⟨hX, hZ⟩ := HXZ.out
          have e3 : none = R := (addO_out hx).symm.trans HA.out
          rw [← hX, ← hZ, ← e3]; exact ⟨rfl, rfl⟩
        clear hx HA
        go_wp2_with (go_at_call 33; refine (turnedQ (HDx.out _)).mono ?_; rintro e w1 ⟨rfl, rfl⟩)
        go_ret2
        obtain ⟨rfl, rfl⟩ := HRx.out
        exact ⟨rfl, HE.out, HB.out⟩
  · rw [if_neg hneg] at hs
    subst hs
    go_enter Try.func55, Try.ntmps55
    go_wp2_with fail
    go_loopw [1, 2] (fun i q wr => ∃ (x r : Int), -1 ≤ x ∧ x ≤ 109573 ∧ 0 < r ∧ r ≤ 9223372036854775807 ∧ i = .int .i64 x ∧ q = .int .i64 r ∧ Hid (E wr) ∧ Hid (Below A w wr) ∧ Hid (addO op 1 r.natAbs (x - 1) = R)) (fun i _ _ => (109575 - intOf i).toNat)
    case atStart => exact ⟨n + 1, k, by omega, by omega, by omega, by omega, rfl, rfl, HE, Below.refl _ _, by show _ = _; rw [show n + 1 - 1 = n by omega]; exact HR.out⟩
    case round =>
      clear HE HR
      obtain ⟨x, r, x0, x1, r0, r1, rfl, rfl, HE, HB, HA⟩ := hrel
      have HDx := hideS (fun wx => HD.out x wx)
      obtain ⟨K, hK⟩ : ∃ K, r.natAbs = K + 1 := ⟨r.natAbs - 1, by omega⟩
      have HK := hideS hK
      rw [hK] at HA
      clear hK
      by_cases hx : isDayP x
      · rw [decide_eq_true hx] at HDx
        have HOx := hideS (HO.out x wr hx HE.out)
        have x00 := hx.2
        cases hop : op x
        · rw [hop] at HOx
          have HA' : Hid (addO op 1 r.natAbs (x + 1 - 1) = R) := by
            show _ = _
            rw [HK.out, show x + 1 - 1 = x by omega, ← addO_shut (Or.inl rfl) hx hop]; exact HA.out
          have hr0 : (r == 0) = false := beq_eq_false_iff_ne.2 (by omega)
          clear hx hop HA
          go_wp2_with (first | (go_at_call 33; refine (turnedQ (HDx.out _)).mono ?_; rintro e w1 ⟨rfl, rfl⟩) | (go_at_call 54; refine HOx.out.mono ?_; rintro e w1 ⟨rfl, hE1, hb1⟩))
          have HE1 := hideS hE1
          have HB1 := hideS (HB.out.trans hb1)
          clear hE1 hb1
          go_roundw
          case rel => exact ⟨x + 1, r, by omega, by omega, by omega, by omega, rfl, rfl, HE1, HB1, HA'⟩
          case measure => simp [intOf]; omega
        · rw [hop] at HOx
          have HA0 : Hid (addO op 1 K x = R) := by
            show _ = _
            rw [← addO_hit hx hop]; exact HA.out
          by_cases hr1 : r = 1
          · have HRx : Hid (x = X ∧ 0 = Z) := by
              have e : K = 0 := by have := HK.out; omega
              obtain ⟨hX, hZ⟩ := HXZ.out
              have e2 := HA0.out
              rw [e] at e2
              have e3 : some x = R := e2
              rw [← hX, ← hZ, ← e3]; exact ⟨rfl, rfl⟩
            subst hr1
            clear hx hop HA HA0
            go_wp2_with (first | (go_at_call 33; refine (turnedQ (HDx.out _)).mono ?_; rintro e w1 ⟨rfl, rfl⟩) | (go_at_call 54; refine HOx.out.mono ?_; rintro e w1 ⟨rfl, hE1, hb1⟩))
            go_ret2
            obtain ⟨rfl, rfl⟩ := HRx.out
            exact ⟨rfl, hE1, HB.out.trans hb1⟩
          · have HA' : Hid (addO op 1 (r - 1).natAbs (x + 1 - 1) = R) := by
              show _ = _
              rw [show x + 1 - 1 = x by omega, show (r - 1).natAbs = K by have := HK.out; omega]; exact HA0.out
            have hr0 : (r - 1 == 0) = false := beq_eq_false_iff_ne.2 (by omega)
            clear hx hop HA HA0
            go_wp2_with (first | (go_at_call 33; refine (turnedQ (HDx.out _)).mono ?_; rintro e w1 ⟨rfl, rfl⟩) | (go_at_call 54; refine HOx.out.mono ?_; rintro e w1 ⟨rfl, hE1, hb1⟩))
            have HE1 := hideS hE1
            have HB1 := hideS (HB.out.trans hb1)
            clear hE1 hb1
            go_roundw
            case rel => exact ⟨x + 1, r - 1, by omega, by omega, by omega, by omega, rfl, rfl, HE1, HB1, HA'⟩
            case measure => simp [intOf]; omega
      · rw [decide_eq_false hx] at HDx
        have HRx : Hid (0 = X ∧ 51 = Z) := by
          obtain ⟨hX, hZ⟩ := HXZ.out
          have e3 : none = R := (addO_out hx).symm.trans HA.out
          rw [← hX, ← hZ, ← e3]; exact ⟨rfl, rfl⟩
        clear hx HA
        go_wp2_with (go_at_call 33; refine (turnedQ (HDx.out _)).mono ?_; rintro e w1 ⟨rfl, rfl⟩)
        go_ret2
        obtain ⟨rfl, rfl⟩ := HRx.out
        exact ⟨rfl, HE.out, HB.out⟩
end Go.Proofs.Ytelghkhcplmnmaa
namespace Go.Proofs.Ytelghkhcplmnmaa
open Go.RowKit

set_option maxHeartbeats 800000 in
theorem nearest_any (A : Nat) (op : Int → Bool) (E : World → Prop) (n s : Int) (w : World) (HO : Hid (OpH A op E)) (HE : Hid (E w)) (hn : isDayP n) (hs : s = 1 ∨ s = -1) :
    Calls Try.prog 34 #[.pointer (some ⟨A, 0, none⟩), .int .i64 n, .int .i64 s] w fun e w' => e = .returned (.tuple #[.int .i64 ((srch op n s).getD 0), .int .i64 (ansE (srch op n s))]) ∧ E w' ∧ Below A w w' := by
  have HOn := hideS (HO.out n w hn HE.out)
  cases hop : op n
  · rw [hop] at HOn
    have HW : Hid (∀ wx, E wx → Calls Try.prog 55 #[.pointer (some ⟨A, 0, none⟩), .int .i64 n, .int .i64 s] wx fun e w' => e = .returned (.tuple #[.int .i64 ((srch op n s).getD 0), .int .i64 (ansE (srch op n s))]) ∧ E w' ∧ Below A wx w') := fun wx hE => by
      have := walk_any A op E n s s wx HO hE hn (by omega) (by omega) (by omega) (by rcases hs with rfl | rfl <;> rfl)
      rw [show s.natAbs = 1 by omega, addO_one, ← srch_shut hs hn hop] at this
      exact this
    generalize (srch op n s).getD 0 = X at *
    generalize ansE (srch op n s) = Z at *
    clear hn hop hs
    go_enter Try.func34, Try.ntmps34
    go_wp2_with (first | (go_at_call 54; refine HOn.out.mono ?_; rintro e w1 ⟨rfl, hE1, hb1⟩) | (go_at_call 55; refine (HW.out _ hE1).mono ?_; rintro e w2 ⟨rfl, hE2, hb2⟩))
    go_ret2
    exact ⟨rfl, hE2, hb1.trans hb2⟩
  · rw [hop] at HOn
    rw [srch_hit hn hop]
    clear hn hop hs
    go_enter Try.func34, Try.ntmps34
    go_wp2_with (go_at_call 54; refine HOn.out.mono ?_; rintro e w1 ⟨rfl, hE1, hb1⟩)
    go_ret2
    exact ⟨rfl, hE1, hb1⟩

set_option maxHeartbeats 800000 in
theorem sameMonth_any (a b : Int) (w : World) (ha : isDayP a) (hb : isDayP b) :
    Calls Try.prog 56 #[.int .i64 a, .int .i64 b] w fun e w' => e = .returned (.bool (decide (moI a = moI b))) ∧ w' = w := by
  obtain ⟨y, m, d, hd⟩ := isD_ex ha.1 ha.2
  obtain ⟨y', m', d', hd'⟩ := isD_ex hb.1 hb.2
  rw [mo_eq hd, mo_eq hd']
  have HC := hideS (fun wx => civil_ok a y m d wx hd)
  have HC' := hideS (fun wx => civil_ok b y' m' d' wx hd')
  obtain ⟨_, _, m1, m2, _, _⟩ := hd.1
  obtain ⟨_, _, m1', m2', _, _⟩ := hd'.1
  by_cases hab : a = b
  · subst hab
    obtain ⟨rfl, rfl, rfl⟩ := hd.unique hd'
    rw [decide_eq_true rfl]
    clear ha hb hd hd' HC'
    go_enter Try.func56, Try.ntmps56
    go_wp2_with (go_at_call 58; refine (HC.out _).mono ?_; rintro e w1 ⟨rfl, rfl⟩)
    go_ret
    exact ⟨rfl, rfl⟩
  · have hK : decide (12 * y + m = 12 * y' + m') = (y == y' && m == m') := by
      rw [Bool.eq_iff_iff, decide_eq_true_eq, Bool.and_eq_true, beq_iff_eq, beq_iff_eq]; omega
    rw [hK]
    clear ha hb hd hd' hK hab
    cases hy : (y == y')
    all_goals
      go_enter Try.func56, Try.ntmps56
      go_wp2_with (first | (go_at_call_of 58 (Value.int IntKind.i64 a); refine (HC.out _).mono ?_; rintro e w1 ⟨rfl, rfl⟩) | (go_at_call 58; refine (HC'.out _).mono ?_; rintro e w1 ⟨rfl, rfl⟩))
      go_ret
      exact ⟨rfl, rfl⟩

open Classical in
/-- What nearestOfMonth tells. -/
noncomputable def nomO (op : Int → Bool) (n s : Int) : Option Int := if ∀ x, srch op n s = some x → moI x ≠ moI n then srch op n (-s) else srch op n s

set_option maxHeartbeats 1600000 in
theorem nom_any (A : Nat) (op : Int → Bool) (E : World → Prop) (n s : Int) (w : World) (HO : Hid (OpH A op E)) (HE : Hid (E w)) (hn : isDayP n) (hs : s = 1 ∨ s = -1) :
    Calls Try.prog 35 #[.pointer (some ⟨A, 0, none⟩), .int .i64 n, .int .i64 s] w fun e w' => e = .returned (.tuple #[.int .i64 ((nomO op n s).getD 0), .int .i64 (ansE (nomO op n s))]) ∧ E w' ∧ Below A w w' := by
  have HN1 := hideS (nearest_any A op E n s w HO HE hn hs)
  have HN2 : Hid (∀ wx, E wx → Calls Try.prog 34 #[.pointer (some ⟨A, 0, none⟩), .int .i64 n, .int .i64 (-s)] wx fun e w' => e = .returned (.tuple #[.int .i64 ((srch op n (-s)).getD 0), .int .i64 (ansE (srch op n (-s)))]) ∧ E w' ∧ Below A wx w') := fun wx hE => nearest_any A op E n (-s) wx HO hE hn (by omega)
  have hday : ∀ x, srch op n s = some x → isDayP x := fun x hx => by
    have := srch_is op n s hs (by have := hn.1; omega) (by have := hn.2; omega)
    rw [hx] at this
    exact (srch_day this).1
  have turn : (∀ x, srch op n s = some x → moI x ≠ moI n) → nomO op n s = srch op n (-s) := fun h => by unfold nomO; rw [if_pos h]
  have stay : ∀ x, srch op n s = some x → moI x = moI n → nomO op n s = some x := fun x h h2 => by
    unfold nomO; rw [if_neg (fun a => a x h h2), h]
  generalize nomO op n s = R at *
  obtain ⟨o, ho⟩ : ∃ o, srch op n s = o := ⟨_, rfl⟩
  rw [ho] at HN1 hday turn stay
  clear ho
  rcases o with _ | x
  · rw [turn (fun x hx => by cases hx)]
    clear turn stay hday
    generalize (srch op n (-s)).getD 0 = X at *
    generalize ansE (srch op n (-s)) = Z at *
    rw [show ansE none = 51 from rfl, show (none : Option Int).getD 0 = 0 from rfl] at HN1
    clear hn
    rcases hs with rfl | rfl
    all_goals
      go_enter Try.func35, Try.ntmps35
      go_wp2_with fail
      refine HN1.out.mono ?_
      rintro e w1 ⟨rfl, hE1, hb1⟩
      have HE1 := hideS hE1
      have HB1 := hideS hb1
      clear hE1 hb1
      go_wp2_with (go_at_call 34; refine (HN2.out _ HE1.out).mono ?_; rintro e w2 ⟨rfl, hE2, hb2⟩)
      go_ret2
      exact ⟨rfl, hE2, HB1.out.trans hb2⟩
  · have hx := hday x rfl
    have HS := hideS (fun wx => sameMonth_any n x wx hn hx)
    rw [show ansE (some x) = 0 from rfl, show (some x : Option Int).getD 0 = x from rfl] at HN1
    by_cases hm : moI x = moI n
    · rw [stay x rfl hm]
      rw [decide_eq_true hm.symm] at HS
      rw [show ansE (some x) = 0 from rfl, show (some x : Option Int).getD 0 = x from rfl]
      clear turn stay hday hm hx hn HN2
      go_enter Try.func35, Try.ntmps35
      go_wp2_with (first | (go_at_call 34; refine HN1.out.mono ?_; rintro e w1 ⟨rfl, hE1, hb1⟩) | (go_at_call 56; refine (turnedQ (HS.out _)).mono ?_; rintro e w2 ⟨rfl, rfl⟩))
      go_ret2
      exact ⟨rfl, hE1, hb1⟩
    · rw [turn (fun y hy => by rw [← Option.some.inj hy]; exact hm)]
      rw [decide_eq_false (fun a => hm a.symm)] at HS
      clear turn stay hday hm hx hn
      generalize (srch op n (-s)).getD 0 = X at *
      generalize ansE (srch op n (-s)) = Z at *
      rcases hs with rfl | rfl
      all_goals
        go_enter Try.func35, Try.ntmps35
        go_wp2_with fail
        refine HN1.out.mono ?_
        rintro e w1 ⟨rfl, hE1, hb1⟩
        have HE1 := hideS hE1
        have HB1 := hideS hb1
        clear hE1 hb1
        go_wp2_with (first | (go_at_call 56; refine (turnedQ (HS.out _)).mono ?_; rintro e w2 ⟨rfl, rfl⟩) | (go_at_call 34; refine (HN2.out _ HE1.out).mono ?_; rintro e w2 ⟨rfl, hE2, hb2⟩))
        go_ret2
        exact ⟨rfl, hE2, HB1.out.trans hb2⟩
end Go.Proofs.Ytelghkhcplmnmaa
