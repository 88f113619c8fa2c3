/- The contracts of the almanac's walk, nearest, nearestOfMonth and count. The contracts of nearest, isSameMonth, nearestOfMonth and count. The contracts of almanacOf, Open and Holiday. The contracts of Adjust, Add and Count. -/
import Derived.Test.YtpcgbcdldkmibaaGreatHau
namespace Go.Proofs.YtpcgbcdldkmibaaGreat
open Go.RowKit

theorem srch_out {op : Int → Bool} {x s : Int} (h : ¬ isDayP x) : srch op x s = none :=
  srch_eq (.none 0 (fun j hj => by omega) (by simpa using h))
theorem srch_hit {op : Int → Bool} {x s : Int} (h : isDayP x) (ho : op x = true) : srch op x s = some x := by
  have e : x + s * ((0 : Nat) : Int) = x := by simp
  have := srch_eq (op := op) (n := x) (s := s) (.hit 0 (fun j hj => by omega) (by rw [e]; exact h) (by rw [e]; exact ho))
  rw [e] at this; exact this
theorem srch_shut {op : Int → Bool} {x s : Int} (hs : s = 1 ∨ s = -1) (h : isDayP x) (ho : op x = false) : srch op x s = srch op (x + s) s := by
  have hx0 := h.1
  have hx1 := h.2
  have h2 := srch_is op (x + s) s hs (by omega) (by omega)
  have st : ∀ k : Nat, x + s + s * (k : Int) = x + s * ((k + 1 : Nat) : Int) := fun k => by
    rw [Int.natCast_add, Int.mul_add]; omega
  have lo : ∀ k, (∀ j < k, isDayP (x + s + s * (j : Nat)) ∧ op (x + s + s * (j : Nat)) = false) → ∀ j < k + 1, isDayP (x + s * (j : Nat)) ∧ op (x + s * (j : Nat)) = false := fun k a j hj => by
    cases j with
    | zero => rw [show x + s * ((0 : Nat) : Int) = x by simp]; exact ⟨h, ho⟩
    | succ j => rw [← st]; exact a j (by omega)
  generalize hR : srch op (x + s) s = R at h2
  cases h2 with
  | hit k a b c =>
    refine (srch_eq (.hit (k + 1) (lo k a) (by rw [← st]; exact b) (by rw [← st]; exact c))).trans ?_
    rw [← st]
  | none k a b => exact srch_eq (.none (k + 1) (lo k a) (by rw [← st]; exact b))
theorem addO_out {op : Int → Bool} {x s : Int} {K : Nat} (h : ¬ isDayP x) : addO op s (K + 1) (x - s) = none :=
  addO_none (by rw [show x - s + s = x by omega]; exact srch_out h)
theorem addO_hit {op : Int → Bool} {x s : Int} {K : Nat} (h : isDayP x) (ho : op x = true) : addO op s (K + 1) (x - s) = addO op s K x :=
  addO_some (by rw [show x - s + s = x by omega]; exact srch_hit h ho)
theorem addO_shut {op : Int → Bool} {x s : Int} {K : Nat} (hs : s = 1 ∨ s = -1) (h : isDayP x) (ho : op x = false) : addO op s (K + 1) (x - s) = addO op s (K + 1) x := by
  show (match srch op (x - s + s) s with | none => none | some x => addO op s K x) = (match srch op (x + s) s with | none => none | some x => addO op s K x)
  rw [show x - s + s = x by omega, srch_shut hs h ho]
theorem addO_one (op : Int → Bool) (s n : Int) : addO op s 1 n = srch op (n + s) s := by
  show (match srch op (n + s) s with | none => none | some x => addO op s 0 x) = _
  cases srch op (n + s) s <;> rfl
def OpH (A : Nat) (op : Int → Bool) (E : World → Prop) : Prop :=
  ∀ x w, isDayP x → E w → Calls Tryz.prog 152 #[.pointer (some ⟨A, 0, none⟩), .int .i64 x] w fun e w' => e = .returned (.bool (op x)) ∧ E w' ∧ Below A w w'
theorem opH (A : Nat) (W : Int) (p : Option Addr) (b off c : Nat) (rs : List Rul) : OpH A (opB W rs) (AlmE A W p b off c rs) :=
  fun x w hx hE => open_any A W x p b off c rs w hE hx

set_option maxHeartbeats 1600000 in
theorem walk_any (A : Nat) (op : Int → Bool) (E : World → Prop) (n k s : Int) (w : World) (HO : Hid (OpH A op E)) (HE : Hid (E w)) (hn : isDayP n) (hk : k ≠ 0) (k0 : -9223372036854775808 ≤ k) (k1 : k ≤ 9223372036854775807) (hs : s = if k < 0 then -1 else 1) :
    Calls Tryz.prog 153 #[.pointer (some ⟨A, 0, none⟩), .int .i64 n, .int .i64 k] w fun e w' => e = .returned (.tuple #[.int .i64 ((addO op s k.natAbs n).getD 0), .int .i64 (ansE (addO op s k.natAbs n))]) ∧ E w' ∧ Below A w w' := by
  have HD := hideS (fun x wx => isDay6_any x wx)
  obtain ⟨R, hR⟩ : ∃ R, addO op s k.natAbs n = R := ⟨_, rfl⟩
  rw [hR]
  have HR := hideS hR
  clear hR
  have n0 := hn.1
  have n1 := hn.2
  clear hn
  obtain ⟨X, hX⟩ : ∃ X, R.getD 0 = X := ⟨_, rfl⟩
  obtain ⟨Z, hZ⟩ : ∃ Z, ansE R = Z := ⟨_, rfl⟩
  rw [hX, hZ]
  have HXZ := hideS (And.intro hX hZ)
  clear hX hZ
  by_cases hneg : k < 0
  · rw [if_pos hneg] at hs
    subst hs
    go_enter Tryz.func153, Tryz.ntmps153
    go_wp2_with fail
    go_loopw [1, 2] (fun i q wr => ∃ (x r : Int), -1 ≤ x ∧ x ≤ 109573 ∧ -9223372036854775808 ≤ r ∧ r < 0 ∧ i = .int .i64 x ∧ q = .int .i64 r ∧ Hid (E wr) ∧ Hid (Below A w wr) ∧ Hid (addO op (-1) r.natAbs (x - (-1)) = R)) (fun i _ _ => (intOf i + 2).toNat)
    case atStart => exact ⟨n - 1, k, by omega, by omega, by omega, by omega, rfl, rfl, HE, Below.refl _ _, by show _ = _; rw [show n - 1 - (-1) = n by omega]; exact HR.out⟩
    case round =>
      clear HE HR
      obtain ⟨x, r, x0, x1, r0, r1, rfl, rfl, HE, HB, HA⟩ := hrel
      have HDx := hideS (fun wx => HD.out x wx)
      obtain ⟨K, hK⟩ : ∃ K, r.natAbs = K + 1 := ⟨r.natAbs - 1, by omega⟩
      have HK := hideS hK
      rw [hK] at HA
      clear hK
      by_cases hx : isDayP x
      · rw [decide_eq_true hx] at HDx
        have HOx := hideS (HO.out x wr hx HE.out)
        have x00 := hx.1
        cases hop : op x
        · rw [hop] at HOx
          have HA' : Hid (addO op (-1) r.natAbs (x - 1 - (-1)) = R) := by
            show _ = _
            rw [HK.out, show x - 1 - (-1) = x by omega, ← addO_shut (Or.inr rfl) hx hop]; exact HA.out
          have hr0 : (r == 0) = false := beq_eq_false_iff_ne.2 (by omega)
          clear hx hop HA
          go_wp2_with (first | (go_at_call 107; refine (turnedQ (HDx.out _)).mono ?_; rintro e w1 ⟨rfl, rfl⟩) | (go_at_call 152; refine HOx.out.mono ?_; rintro e w1 ⟨rfl, hE1, hb1⟩))
          have HE1 := hideS hE1
          have HB1 := hideS (HB.out.trans hb1)
          clear hE1 hb1
          go_roundw
          case rel => exact ⟨x - 1, r, by omega, by omega, by omega, by omega, rfl, rfl, HE1, HB1, HA'⟩
          case measure => simp [intOf]; omega
        · rw [hop] at HOx
          have HA0 : Hid (addO op (-1) K x = R) := by
            show _ = _
            rw [← addO_hit hx hop]; exact HA.out
          by_cases hr1 : r = -1
          · have HRx : Hid (x = X ∧ 0 = Z) := by
              have e : K = 0 := by have := HK.out; omega
              obtain ⟨hX, hZ⟩ := HXZ.out
              have e2 := HA0.out
              rw [e] at e2
              have e3 : some x = R := e2
              rw [← hX, ← hZ, ← e3]; exact ⟨rfl, rfl⟩
            subst hr1
            clear hx hop HA HA0
            go_wp2_with (first | (go_at_call 107; refine (turnedQ (HDx.out _)).mono ?_; rintro e w1 ⟨rfl, rfl⟩) | (go_at_call 152; refine HOx.out.mono ?_; rintro e w1 ⟨rfl, hE1, hb1⟩))
            go_ret2
            obtain ⟨rfl, rfl⟩ := HRx.out
            exact ⟨rfl, hE1, HB.out.trans hb1⟩
          · have HA' : Hid (addO op (-1) (r + 1).natAbs (x - 1 - (-1)) = R) := by
              show _ = _
              rw [show x - 1 - (-1) = x by omega, show (r + 1).natAbs = K by have := HK.out; omega]; exact HA0.out
            have hr0 : (r + 1 == 0) = false := beq_eq_false_iff_ne.2 (by omega)
            clear hx hop HA HA0
            go_wp2_with (first | (go_at_call 107; refine (turnedQ (HDx.out _)).mono ?_; rintro e w1 ⟨rfl, rfl⟩) | (go_at_call 152; refine HOx.out.mono ?_; rintro e w1 ⟨rfl, hE1, hb1⟩))
            have HE1 := hideS hE1
            have HB1 := hideS (HB.out.trans hb1)
            clear hE1 hb1
            go_roundw
            case rel => exact ⟨x - 1, r + 1, by omega, by omega, by omega, by omega, rfl, rfl, HE1, HB1, HA'⟩
            case measure => simp [intOf]; omega
      · rw [decide_eq_false hx] at HDx
        have HRx : Hid (0 = X ∧ 51 = Z) := by
          obtain ⟨hX, hZ⟩ := HXZ.out
          have e3 : none = R := (addO_out hx).symm.trans HA.out
          rw [← hX, ← hZ, ← e3]; exact ⟨rfl, rfl⟩
        clear hx HA
        go_wp2_with (go_at_call 107; refine (turnedQ (HDx.out _)).mono ?_; rintro e w1 ⟨rfl, rfl⟩)
        go_ret2
        obtain ⟨rfl, rfl⟩ := HRx.out
        exact ⟨rfl, HE.out, HB.out⟩
  · rw [if_neg hneg] at hs
    subst hs
    go_enter Tryz.func153, Tryz.ntmps153
    go_wp2_with fail
    go_loopw [1, 2] (fun i q wr => ∃ (x r : Int), -1 ≤ x ∧ x ≤ 109573 ∧ 0 < r ∧ r ≤ 9223372036854775807 ∧ i = .int .i64 x ∧ q = .int .i64 r ∧ Hid (E wr) ∧ Hid (Below A w wr) ∧ Hid (addO op 1 r.natAbs (x - 1) = R)) (fun i _ _ => (109575 - intOf i).toNat)
    case atStart => exact ⟨n + 1, k, by omega, by omega, by omega, by omega, rfl, rfl, HE, Below.refl _ _, by show _ = _; rw [show n + 1 - 1 = n by omega]; exact HR.out⟩
    case round =>
      clear HE HR
      obtain ⟨x, r, x0, x1, r0, r1, rfl, rfl, HE, HB, HA⟩ := hrel
      have HDx := hideS (fun wx => HD.out x wx)
      obtain ⟨K, hK⟩ : ∃ K, r.natAbs = K + 1 := ⟨r.natAbs - 1, by omega⟩
      have HK := hideS hK
      rw [hK] at HA
      clear hK
      by_cases hx : isDayP x
      · rw [decide_eq_true hx] at HDx
        have HOx := hideS (HO.out x wr hx HE.out)
        have x00 := hx.2
        cases hop : op x
        · rw [hop] at HOx
          have HA' : Hid (addO op 1 r.natAbs (x + 1 - 1) = R) := by
            show _ = _
            rw [HK.out, show x + 1 - 1 = x by omega, ← addO_shut (Or.inl rfl) hx hop]; exact HA.out
          have hr0 : (r == 0) = false := beq_eq_false_iff_ne.2 (by omega)
          clear hx hop HA
          go_wp2_with (first | (go_at_call 107; refine (turnedQ (HDx.out _)).mono ?_; rintro e w1 ⟨rfl, rfl⟩) | (go_at_call 152; refine HOx.out.mono ?_; rintro e w1 ⟨rfl, hE1, hb1⟩))
          have HE1 := hideS hE1
          have HB1 := hideS (HB.out.trans hb1)
          clear hE1 hb1
          go_roundw
          case rel => exact ⟨x + 1, r, by omega, by omega, by omega, by omega, rfl, rfl, HE1, HB1, HA'⟩
          case measure => simp [intOf]; omega
        · rw [hop] at HOx
          have HA0 : Hid (addO op 1 K x = R) := by
            show _ = _
            rw [← addO_hit hx hop]; exact HA.out
          by_cases hr1 : r = 1
          · have HRx : Hid (x = X ∧ 0 = Z) := by
              have e : K = 0 := by have := HK.out; omega
              obtain ⟨hX, hZ⟩ := HXZ.out
              have e2 := HA0.out
              rw [e] at e2
              have e3 : some x = R := e2
              rw [← hX, ← hZ, ← e3]; exact ⟨rfl, rfl⟩
            subst hr1
            clear hx hop HA HA0
            go_wp2_with (first | (go_at_call 107; refine (turnedQ (HDx.out _)).mono ?_; rintro e w1 ⟨rfl, rfl⟩) | (go_at_call 152; refine HOx.out.mono ?_; rintro e w1 ⟨rfl, hE1, hb1⟩))
            go_ret2
            obtain ⟨rfl, rfl⟩ := HRx.out
            exact ⟨rfl, hE1, HB.out.trans hb1⟩
          · have HA' : Hid (addO op 1 (r - 1).natAbs (x + 1 - 1) = R) := by
              show _ = _
              rw [show x + 1 - 1 = x by omega, show (r - 1).natAbs = K by have := HK.out; omega]; exact HA0.out
            have hr0 : (r - 1 == 0) = false := beq_eq_false_iff_ne.2 (by omega)
            clear hx hop HA HA0
            go_wp2_with (first | (go_at_call 107; refine (turnedQ (HDx.out _)).mono ?_; rintro e w1 ⟨rfl, rfl⟩) | (go_at_call 152; refine HOx.out.mono ?_; rintro e w1 ⟨rfl, hE1, hb1⟩))
            have HE1 := hideS hE1
            have HB1 := hideS (HB.out.trans hb1)
            clear hE1 hb1
            go_roundw
            case rel => exact ⟨x + 1, r - 1, by omega, by omega, by omega, by omega, rfl, rfl, HE1, HB1, HA'⟩
            case measure => simp [intOf]; omega
      · rw [decide_eq_false hx] at HDx
        have HRx : Hid (0 = X ∧ 51 = Z) := by
          obtain ⟨hX, hZ⟩ := HXZ.out
          have e3 : none = R := (addO_out hx).symm.trans HA.out
          rw [← hX, ← hZ, ← e3]; exact ⟨rfl, rfl⟩
        clear hx HA
        go_wp2_with (go_at_call 107; refine (turnedQ (HDx.out _)).mono ?_; rintro e w1 ⟨rfl, rfl⟩)
        go_ret2
        obtain ⟨rfl, rfl⟩ := HRx.out
        exact ⟨rfl, HE.out, HB.out⟩
end Go.Proofs.YtpcgbcdldkmibaaGreat
namespace Go.Proofs.YtpcgbcdldkmibaaGreat
open Go.RowKit

set_option maxHeartbeats 800000 in
theorem nearest_any (A : Nat) (op : Int → Bool) (E : World → Prop) (n s : Int) (w : World) (HO : Hid (OpH A op E)) (HE : Hid (E w)) (hn : isDayP n) (hs : s = 1 ∨ s = -1) :
    Calls Tryz.prog 108 #[.pointer (some ⟨A, 0, none⟩), .int .i64 n, .int .i64 s] w fun e w' => e = .returned (.tuple #[.int .i64 ((srch op n s).getD 0), .int .i64 (ansE (srch op n s))]) ∧ E w' ∧ Below A w w' := by
  have HOn := hideS (HO.out n w hn HE.out)
  cases hop : op n
  · rw [hop] at HOn
    have HW : Hid (∀ wx, E wx → Calls Tryz.prog 153 #[.pointer (some ⟨A, 0, none⟩), .int .i64 n, .int .i64 s] wx fun e w' => e = .returned (.tuple #[.int .i64 ((srch op n s).getD 0), .int .i64 (ansE (srch op n s))]) ∧ E w' ∧ Below A wx w') := fun wx hE => by
      have := walk_any A op E n s s wx HO hE hn (by omega) (by omega) (by omega) (by rcases hs with rfl | rfl <;> rfl)
      rw [show s.natAbs = 1 by omega, addO_one, ← srch_shut hs hn hop] at this
      exact this
    generalize (srch op n s).getD 0 = X at *
    generalize ansE (srch op n s) = Z at *
    clear hn hop hs
    go_enter Tryz.func108, Tryz.ntmps108
    go_wp2_with (first | (go_at_call 152; refine HOn.out.mono ?_; rintro e w1 ⟨rfl, hE1, hb1⟩) | (go_at_call 153; refine (HW.out _ hE1).mono ?_; rintro e w2 ⟨rfl, hE2, hb2⟩))
    go_ret2
    exact ⟨rfl, hE2, hb1.trans hb2⟩
  · rw [hop] at HOn
    rw [srch_hit hn hop]
    clear hn hop hs
    go_enter Tryz.func108, Tryz.ntmps108
    go_wp2_with (go_at_call 152; refine HOn.out.mono ?_; rintro e w1 ⟨rfl, hE1, hb1⟩)
    go_ret2
    exact ⟨rfl, hE1, hb1⟩

set_option maxHeartbeats 800000 in
theorem sameMonth_any (a b : Int) (w : World) (ha : isDayP a) (hb : isDayP b) :
    Calls Tryz.prog 154 #[.int .i64 a, .int .i64 b] w fun e w' => e = .returned (.bool (decide (moI a = moI b))) ∧ w' = w := by
  obtain ⟨y, m, d, hd⟩ := isD_ex ha.1 ha.2
  obtain ⟨y', m', d', hd'⟩ := isD_ex hb.1 hb.2
  rw [mo_eq hd, mo_eq hd']
  have HC := hideS (fun wx => civil_ok a y m d wx hd)
  have HC' := hideS (fun wx => civil_ok b y' m' d' wx hd')
  obtain ⟨_, _, m1, m2, _, _⟩ := hd.1
  obtain ⟨_, _, m1', m2', _, _⟩ := hd'.1
  by_cases hab : a = b
  · subst hab
    obtain ⟨rfl, rfl, rfl⟩ := hd.unique hd'
    rw [decide_eq_true rfl]
    clear ha hb hd hd' HC'
    go_enter Tryz.func154, Tryz.ntmps154
    go_wp2_with (go_at_call 182; refine (HC.out _).mono ?_; rintro e w1 ⟨rfl, rfl⟩)
    go_ret
    exact ⟨rfl, rfl⟩
  · have hK : decide (12 * y + m = 12 * y' + m') = (y == y' && m == m') := by
      rw [Bool.eq_iff_iff, decide_eq_true_eq, Bool.and_eq_true, beq_iff_eq, beq_iff_eq]; omega
    rw [hK]
    clear ha hb hd hd' hK hab
    cases hy : (y == y')
    all_goals
      go_enter Tryz.func154, Tryz.ntmps154
      go_wp2_with (first | (go_at_call_of 182 (Value.int IntKind.i64 a); refine (HC.out _).mono ?_; rintro e w1 ⟨rfl, rfl⟩) | (go_at_call 182; refine (HC'.out _).mono ?_; rintro e w1 ⟨rfl, rfl⟩))
      go_ret
      exact ⟨rfl, rfl⟩

open Classical in
noncomputable def nomO (op : Int → Bool) (n s : Int) : Option Int := if ∀ x, srch op n s = some x → moI x ≠ moI n then srch op n (-s) else srch op n s

set_option maxHeartbeats 1600000 in
theorem nom_any (A : Nat) (op : Int → Bool) (E : World → Prop) (n s : Int) (w : World) (HO : Hid (OpH A op E)) (HE : Hid (E w)) (hn : isDayP n) (hs : s = 1 ∨ s = -1) :
    Calls Tryz.prog 109 #[.pointer (some ⟨A, 0, none⟩), .int .i64 n, .int .i64 s] w fun e w' => e = .returned (.tuple #[.int .i64 ((nomO op n s).getD 0), .int .i64 (ansE (nomO op n s))]) ∧ E w' ∧ Below A w w' := by
  have HN1 := hideS (nearest_any A op E n s w HO HE hn hs)
  have HN2 : Hid (∀ wx, E wx → Calls Tryz.prog 108 #[.pointer (some ⟨A, 0, none⟩), .int .i64 n, .int .i64 (-s)] wx fun e w' => e = .returned (.tuple #[.int .i64 ((srch op n (-s)).getD 0), .int .i64 (ansE (srch op n (-s)))]) ∧ E w' ∧ Below A wx w') := fun wx hE => nearest_any A op E n (-s) wx HO hE hn (by omega)
  have hday : ∀ x, srch op n s = some x → isDayP x := fun x hx => by
    have := srch_is op n s hs (by have := hn.1; omega) (by have := hn.2; omega)
    rw [hx] at this
    exact (srch_day this).1
  have turn : (∀ x, srch op n s = some x → moI x ≠ moI n) → nomO op n s = srch op n (-s) := fun h => by unfold nomO; rw [if_pos h]
  have stay : ∀ x, srch op n s = some x → moI x = moI n → nomO op n s = some x := fun x h h2 => by
    unfold nomO; rw [if_neg (fun a => a x h h2), h]
  generalize nomO op n s = R at *
  obtain ⟨o, ho⟩ : ∃ o, srch op n s = o := ⟨_, rfl⟩
  rw [ho] at HN1 hday turn stay
  clear ho
  rcases o with _ | x
  · rw [turn (fun x hx => by cases hx)]
    clear turn stay hday
    generalize (srch op n (-s)).getD 0 = X at *
    generalize ansE (srch op n (-s)) = Z at *
    rw [show ansE none = 51 from rfl, show (none : Option Int).getD 0 = 0 from rfl] at HN1
    clear hn
    rcases hs with rfl | rfl
    all_goals
      go_enter Tryz.func109, Tryz.ntmps109
      go_wp2_with fail
      refine HN1.out.mono ?_
      rintro e w1 ⟨rfl, hE1, hb1⟩
      have HE1 := hideS hE1
      have HB1 := hideS hb1
      clear hE1 hb1
      go_wp2_with (go_at_call 108; refine (HN2.out _ HE1.out).mono ?_; rintro e w2 ⟨rfl, hE2, hb2⟩)
      go_ret2
      exact ⟨rfl, hE2, HB1.out.trans hb2⟩
  · have hx := hday x rfl
    have HS := hideS (fun wx => sameMonth_any n x wx hn hx)
    rw [show ansE (some x) = 0 from rfl, show (some x : Option Int).getD 0 = x from rfl] at HN1
    by_cases hm : moI x = moI n
    · rw [stay x rfl hm]
      rw [decide_eq_true hm.symm] at HS
      rw [show ansE (some x) = 0 from rfl, show (some x : Option Int).getD 0 = x from rfl]
      clear turn stay hday hm hx hn HN2
      go_enter Tryz.func109, Tryz.ntmps109
      go_wp2_with (first | (go_at_call 108; refine HN1.out.mono ?_; rintro e w1 ⟨rfl, hE1, hb1⟩) | (go_at_call 154; refine (turnedQ (HS.out _)).mono ?_; rintro e w2 ⟨rfl, rfl⟩))
      go_ret2
      exact ⟨rfl, hE1, hb1⟩
    · rw [turn (fun y hy => by rw [← Option.some.inj hy]; exact hm)]
      rw [decide_eq_false (fun a => hm a.symm)] at HS
      clear turn stay hday hm hx hn
      generalize (srch op n (-s)).getD 0 = X at *
      generalize ansE (srch op n (-s)) = Z at *
      rcases hs with rfl | rfl
      all_goals
        go_enter Tryz.func109, Tryz.ntmps109
        go_wp2_with fail
        refine HN1.out.mono ?_
        rintro e w1 ⟨rfl, hE1, hb1⟩
        have HE1 := hideS hE1
        have HB1 := hideS hb1
        clear hE1 hb1
        go_wp2_with (first | (go_at_call 154; refine (turnedQ (HS.out _)).mono ?_; rintro e w2 ⟨rfl, rfl⟩) | (go_at_call 108; refine (HN2.out _ HE1.out).mono ?_; rintro e w2 ⟨rfl, hE2, hb2⟩))
        go_ret2
        exact ⟨rfl, hE2, HB1.out.trans hb2⟩

set_option maxHeartbeats 800000 in
theorem count_any (A : Nat) (op : Int → Bool) (E : World → Prop) (a b : Int) (w : World) (HO : Hid (OpH A op E)) (HE : Hid (E w)) (ha : isDayP a) (hb : isDayP b) (hab : a ≤ b) :
    Calls Tryz.prog 184 #[.pointer (some ⟨A, 0, none⟩), .int .i64 a, .int .i64 b] w fun e w' => e = .returned (.int .i64 (cntN op a (b - a).toNat : Nat)) ∧ E w' ∧ Below A w w' := by
  have a0 := ha.1
  have b1 := hb.2
  clear ha hb
  obtain ⟨R, hR⟩ : ∃ R : Int, ((cntN op a (b - a).toNat : Nat) : Int) = R := ⟨_, rfl⟩
  rw [hR]
  have HR := hideS hR
  clear hR
  go_enter Tryz.func184, Tryz.ntmps184
  go_wp2_with fail
  go_loopw [7, 8] (fun q i wr => ∃ (j : Nat) (x z : Int), a ≤ x ∧ x ≤ b ∧ 0 ≤ z ∧ z ≤ 110000 ∧ i = .int .i64 x ∧ q = .int .i64 z ∧ Hid (E wr) ∧ Hid (Below A w wr) ∧ Hid (x = a + j ∧ z = (cntN op a j : Nat) ∧ cntN op a j ≤ j)) (fun _ i _ => (b - intOf i).toNat)
  case atStart => exact ⟨0, a, 0, by omega, by omega, by omega, by omega, rfl, rfl, HE, Below.refl _ _, ⟨by omega, rfl, Nat.le_refl _⟩⟩
  case round =>
    clear HE
    obtain ⟨j, x, z, x0, x1, z0, z1, rfl, rfl, HE, HB, HJ⟩ := hrel
    by_cases hlt : x < b
    · have HOx := hideS (HO.out x wr ⟨by omega, by omega⟩ HE.out)
      have hc : cntN op a (j + 1) = cntN op a j + (if op x then 1 else 0) := by rw [HJ.out.1]; rfl
      have hle := cnt_le op a (j + 1)
      have hJ := HJ.out
      cases hop : op x
      · rw [hop] at HOx hc
        rw [if_neg Bool.false_ne_true] at hc
        have HJ' : Hid (x + 1 = a + ((j + 1 : Nat) : Int) ∧ z = (cntN op a (j + 1) : Nat) ∧ cntN op a (j + 1) ≤ j + 1) := ⟨by omega, by omega, hle⟩
        clear hc hle hJ hop
        go_wp2_with (go_at_call 152; refine HOx.out.mono ?_; rintro e w1 ⟨rfl, hE1, hb1⟩)
        have HE1 := hideS hE1
        have HB1 := hideS (HB.out.trans hb1)
        clear hE1 hb1
        go_roundw
        case rel => exact ⟨j + 1, x + 1, z, by omega, by omega, by omega, by omega, rfl, rfl, HE1, HB1, HJ'⟩
        case measure => simp [intOf]; omega
      · rw [hop] at HOx hc
        rw [if_pos rfl] at hc
        have HJ' : Hid (x + 1 = a + ((j + 1 : Nat) : Int) ∧ z + 1 = (cntN op a (j + 1) : Nat) ∧ cntN op a (j + 1) ≤ j + 1) := ⟨by omega, by omega, hle⟩
        have z2 : z + 1 ≤ 110000 := by omega
        clear hc hle hJ hop
        go_wp2_with (go_at_call 152; refine HOx.out.mono ?_; rintro e w1 ⟨rfl, hE1, hb1⟩)
        have HE1 := hideS hE1
        have HB1 := hideS (HB.out.trans hb1)
        clear hE1 hb1
        go_roundw
        case rel => exact ⟨j + 1, x + 1, z + 1, by omega, by omega, by omega, by omega, rfl, rfl, HE1, HB1, HJ'⟩
        case measure => simp [intOf]; omega
    · have HZ : Hid (z = R) := by
        obtain ⟨e1, e2, _⟩ := HJ.out
        show _ = _
        rw [← HR.out, e2, show (b - a).toNat = j by omega]
      go_wp2_with fail
      go_ret
      obtain rfl := HZ.out
      exact ⟨rfl, HE.out, HB.out⟩
end Go.Proofs.YtpcgbcdldkmibaaGreat
namespace Go.Proofs.YtpcgbcdldkmibaaGreat
open Go.RowKit

theorem alm_new (w : World) (W : Int) (v : Value) : AlmC (w.alloc (.cells #[.int .i64 W, v, .int .i64 0, .int .i64 (-1), .slice none 0 0] 207)) w.heap.size W v 0 (-1) (.slice none 0 0) :=
  ⟨World.rowIs_alloc w #[.int .i64 W, v, .int .i64 0, .int .i64 (-1), .slice none 0 0] 207 (almF W v 0 (-1) (.slice none 0 0)) (fun i hi => by
    rcases five (show i < 5 from hi) with rfl | rfl | rfl | rfl | rfl <;> rfl)⟩
structure Days (w : World) (dp : Option Addr) (bd : Nat) (xs : List Int) : Prop where
  at_ : 0 < xs.length → dp = some ⟨bd, 0, none⟩
  lt : 0 < xs.length → bd < w.heap.size
  cell : ∀ j < xs.length, w.cell? ⟨bd, j, none⟩ = some (.int .i64 (xs.getD j 0))
theorem Days.below {w w' : World} {dp : Option Addr} {bd : Nat} {xs : List Int} (h : Days w dp bd xs) (hb : Below w.heap.size w w') : Days w' dp bd xs :=
  ⟨h.at_, fun hx => Nat.lt_of_lt_of_le (h.lt hx) hb.size, fun j hj => (hb.cell (p := ⟨bd, j, none⟩) (h.lt (by omega))).trans (h.cell j hj)⟩

set_option maxHeartbeats 1600000 in
theorem almOf_err (W : Int) (p dp : Option Addr) (c N dn dc : Nat) (A B : Int) (w : World) (hA : A ≠ 0) (HC : Hid (∀ wx, Below w.heap.size w wx → Calls Tryz.prog 148 #[.agg #[.int .i64 W, .slice p N c]] wx fun e w' => e = .returned (.tuple #[.int .i64 A, .int .i64 B]) ∧ Below wx.heap.size wx w')) :
    Calls Tryz.prog 106 #[.agg #[.int .i64 W, .slice p N c], .slice dp dn dc] w fun e w' => e = .returned (.tuple #[.pointer none, .int .i64 A]) ∧ Below w.heap.size w w' := by
  have HB0 : Hid (Below w.heap.size w (w.alloc (.cells #[.int .i64 W, .slice p N c] 25))) := (Below.refl w.heap.size w).alloc (Nat.le_refl _) _
  have hA' : (A != 0) = true := bne_iff_ne.2 hA
  clear hA
  go_enter Tryz.func106, Tryz.ntmps106
  go_wp2_with (go_at_call 148; refine (HC.out _ HB0.out).mono ?_; rintro e w1 ⟨rfl, hb1⟩)
  go_ret2
  exact ⟨rfl, HB0.out.trans (hb1.mono HB0.out.size)⟩

def AlmO (K dn : Nat) (W : Int) (p : Option Addr) (b off c : Nat) (rs : List Rul) (w : World) (e : Ending) (w' : World) : Prop :=
  (K < dn ∧ e = .returned (.tuple #[.pointer none, .int .i64 51])) ∨ (K = dn ∧ ∃ A, e = .returned (.tuple #[.pointer (some ⟨A, 0, none⟩), .int .i64 0]) ∧ w.heap.size ≤ A ∧ AlmE A W p b off c rs w')
set_option maxHeartbeats 1600000 in
theorem almOf_loop (W : Int) (p dp : Option Addr) (b off c bd dn dc K : Nat) (rs : List Rul) (xs : List Int) (w : World) (h : OkC W rs) (hs : RSrc w p b off rs) (hx : xs.length = dn) (hd : Days w dp bd xs) (hn : dn ≤ 10) (hK : K ≤ dn) (hall : ∀ j < K, isDayP (xs.getD j 0)) (hbad : K < dn → ¬ isDayP (xs.getD K 0)) :
    Calls Tryz.prog 106 #[.agg #[.int .i64 W, .slice p rs.length c], .slice dp dn dc] w fun e w' => AlmO K dn W p b off c rs w e w' ∧ Below w.heap.size w w' := by
  have HC : Hid (∀ wx, Below w.heap.size w wx → Calls Tryz.prog 148 #[.agg #[.int .i64 W, .slice p rs.length c]] wx fun e w' => e = .returned (.tuple #[.int .i64 0, .int .i64 0]) ∧ Below wx.heap.size wx w') := fun wx hb => check_any W p b off c rs 0 0 wx (.ok h) (hs.below hb) (by have := h.len; omega)
  have HH := hideS h
  have HS := hideS hs
  have HDs := hideS hd
  have HAll := hideS hall
  have HBad := hideS hbad
  have HX := hideS hx
  obtain ⟨N, hN⟩ : ∃ N, rs.length = N := ⟨_, rfl⟩
  have HN := hideS hN
  rw [hN] at HC ⊢
  clear h hs hd hall hbad hx hN
  have HB0 : Hid (Below w.heap.size w (w.alloc (.cells #[.int .i64 W, .slice p N c] 25))) := (Below.refl w.heap.size w).alloc (Nat.le_refl _) _
  have HD := hideS (fun x wx => isDay6_any x wx)
  go_enter Tryz.func106, Tryz.ntmps106
  go_wp2_with (go_at_call 148; refine (HC.out _ HB0.out).mono ?_; rintro e w1 ⟨rfl, hb1⟩)
  have HBx := hideS (CBoxP.first hb1)
  clear hb1 HC HB0
  go_loop [20] (fun i => ∃ k : Nat, k ≤ K ∧ i = .int .i64 k) (fun i => dn - (intOf i).toNat)
  case atStart => exact ⟨0, by omega, rfl⟩
  case round =>
    obtain ⟨k, hk, rfl⟩ := hrel
    by_cases hlt : k < dn
    · have hx : k < xs.length := by rw [HX.out]; exact hlt
      obtain rfl := HDs.out.at_ (by omega)
      have hc := (HDs.out.below HBx.out.below).cell k hx
      obtain ⟨x, hxe⟩ : ∃ x, xs.getD k 0 = x := ⟨_, rfl⟩
      rw [hxe] at hc
      have HDx := hideS (fun wx => HD.out x wx)
      by_cases hkK : k < K
      · have hxd := HAll.out k hkK
        rw [hxe] at hxd
        rw [decide_eq_true hxd] at HDx
        clear hxd hxe hx
        go_wp2_with (go_at_call 107; refine (turnedQ (HDx.out _)).mono ?_; rintro e w2 ⟨rfl, rfl⟩)
        go_round
        case rel => exact ⟨k + 1, by omega, by go_num⟩
        case measure => simp [intOf]; omega
      · obtain rfl : k = K := by omega
        have hxd := HBad.out hlt
        rw [hxe] at hxd
        rw [decide_eq_false hxd] at HDx
        clear hxd hxe hx
        go_wp2_with (go_at_call 107; refine (turnedQ (HDx.out _)).mono ?_; rintro e w2 ⟨rfl, rfl⟩)
        go_ret2
        exact ⟨Or.inl ⟨hlt, rfl⟩, HBx.out.below⟩
    · obtain rfl : k = K := by omega
      have hkd : k = dn := by omega
      have hge : ¬ (k : Int) < dn := by omega
      obtain ⟨c0, c1⟩ := HBx.out.cells
      go_wp2_with fail
      go_ret2
      have hA := alm_new w1 W (.slice p N c)
      have hlo := HBx.out.below.size
      refine ⟨Or.inr ⟨rfl, w1.heap.size, rfl, hlo, HH.out, HS.out.below (HBx.out.below.alloc hlo _), fun hx => Nat.lt_of_lt_of_le (HS.out.lt hx) hlo, ?_⟩, HBx.out.below.alloc hlo _⟩
      rw [HN.out]
      exact .none hA

theorem almOf_ok (W : Int) (p dp : Option Addr) (b off c bd dn dc : Nat) (rs : List Rul) (xs : List Int) (w : World) (h : OkC W rs) (hs : RSrc w p b off rs) (hx : xs.length = dn) (hd : Days w dp bd xs) (hn : dn ≤ 10) (hall : ∀ j < dn, isDayP (xs.getD j 0)) :
    Calls Tryz.prog 106 #[.agg #[.int .i64 W, .slice p rs.length c], .slice dp dn dc] w fun e w' => ∃ A, e = .returned (.tuple #[.pointer (some ⟨A, 0, none⟩), .int .i64 0]) ∧ w.heap.size ≤ A ∧ AlmE A W p b off c rs w' ∧ Below w.heap.size w w' := by
  refine (almOf_loop W p dp b off c bd dn dc dn rs xs w h hs hx hd hn (Nat.le_refl _) hall (fun a => absurd a (Nat.lt_irrefl _))).mono ?_
  rintro e w' ⟨ho, hb⟩
  rcases ho with ⟨a, _⟩ | ⟨_, A, he, hA, hE⟩
  · exact absurd a (Nat.lt_irrefl _)
  · exact ⟨A, he, hA, hE, hb⟩
theorem almOf_bad (W : Int) (p dp : Option Addr) (b off c bd dn dc : Nat) (rs : List Rul) (xs : List Int) (A B : Int) (w : World) (h : ChkR W rs A B) (hs : RSrc w p b off rs) (hl : rs.length ≤ 9223372036854775807) (hx : xs.length = dn) (hd : Days w dp bd xs) (hn : dn ≤ 10) (hbad : A ≠ 0 ∨ ∃ j < dn, ¬ isDayP (xs.getD j 0)) :
    Calls Tryz.prog 106 #[.agg #[.int .i64 W, .slice p rs.length c], .slice dp dn dc] w fun e w' => e = .returned (.tuple #[.pointer none, .int .i64 (if A ≠ 0 then A else 51)]) ∧ Below w.heap.size w w' := by
  by_cases hA : A = 0
  · subst hA
    obtain ⟨hok, rfl⟩ := chk_ok h
    rw [if_neg (fun a => a rfl)]
    rcases hbad with a | ⟨j, hj, hj2⟩
    · exact absurd rfl a
    · obtain ⟨K, hK, hK1, hK2⟩ := least_ex (p := fun j => decide (isDayP (xs.getD j 0))) (m := j) (decide_eq_false hj2)
      refine (almOf_loop W p dp b off c bd dn dc K rs xs w hok hs hx hd hn (by omega) (fun i hi => of_decide_eq_true (hK2 i hi)) (fun _ => of_decide_eq_false hK1)).mono ?_
      rintro e w' ⟨ho, hb⟩
      rcases ho with ⟨_, he⟩ | ⟨a, _⟩
      · exact ⟨he, hb⟩
      · omega
  · rw [if_pos hA]
    exact almOf_err W p dp c rs.length dn dc A B w hA (fun wx hb => check_any W p b off c rs A B wx h (hs.below hb) hl)

theorem one_day {n : Int} (h : isDayP n) : ∀ j < 1, isDayP ([n].getD j 0) := fun j hj => by
  obtain rfl : j = 0 := by omega
  exact h
theorem two_day {a b : Int} (h : isDayP a) (h' : isDayP b) : ∀ j < 2, isDayP ([a, b].getD j 0) := fun j hj => by
  rcases (show j = 0 ∨ j = 1 by omega) with rfl | rfl
  · exact h
  · exact h'
theorem days_one (w : World) (o : Obj) (n : Int) : Days ((w.alloc o).alloc (.cells #[.int .i64 n] 3)) (some ⟨w.heap.size + 1, 0, none⟩) (w.heap.size + 1) [n] :=
  ⟨fun _ => rfl, fun _ => by simp, fun j hj => by
    obtain rfl : j = 0 := by simpa using hj
    exact new_cell _ _ 0 (by simp)⟩
theorem days_two (w : World) (o : Obj) (a b : Int) : Days ((w.alloc o).alloc (.cells #[.int .i64 a, .int .i64 b] 3)) (some ⟨w.heap.size + 1, 0, none⟩) (w.heap.size + 1) [a, b] :=
  ⟨fun _ => rfl, fun _ => by simp, fun j hj => by
    rcases (show j = 0 ∨ j = 1 by have : j < 2 := hj; omega) with rfl | rfl
    · exact new_cell _ _ 0 (by simp)
    · exact new_cell _ _ 1 (by simp)⟩
theorem days_none (w : World) (bd : Nat) : Days w none bd [] := ⟨fun h => absurd h (by simp), fun h => absurd h (by simp), fun j hj => absurd hj (by simp)⟩

end Go.Proofs.YtpcgbcdldkmibaaGreat
namespace Go.Proofs.YtpcgbcdldkmibaaGreat
open Go.RowKit

theorem adjO_0 (op : Int → Bool) (n : Int) : adjO op n 0 = some n := by unfold adjO; rw [if_pos rfl]
theorem adjO_1 (op : Int → Bool) (n : Int) : adjO op n 1 = srch op n 1 := by
  unfold adjO
  rw [if_neg (by decide), if_neg (fun a => by have := a.1; omega), show stepI 1 = 1 from rfl]
theorem adjO_2 (op : Int → Bool) (n : Int) : adjO op n 2 = srch op n (-1) := by
  unfold adjO
  rw [if_neg (by decide), if_neg (fun a => by have := a.1; omega), show stepI 2 = -1 from rfl]
theorem adjO_3 (op : Int → Bool) (n : Int) : adjO op n 3 = nomO op n 1 := by
  unfold adjO nomO
  rw [if_neg (by decide), show stepI 3 = 1 from rfl]
  by_cases h : ∀ x, srch op n 1 = some x → moI x ≠ moI n
  · rw [if_pos ⟨Or.inl rfl, h⟩, if_pos h]
  · rw [if_neg (fun a => h a.2), if_neg h]
theorem adjO_4 (op : Int → Bool) (n : Int) : adjO op n 4 = nomO op n (-1) := by
  unfold adjO nomO
  rw [if_neg (by decide), show stepI 4 = -1 from rfl]
  by_cases h : ∀ x, srch op n (-1) = some x → moI x ≠ moI n
  · rw [if_pos ⟨Or.inr rfl, h⟩, if_pos h]
  · rw [if_neg (fun a => h a.2), if_neg h]

structure PubH (w : World) (W : Int) (p : Option Addr) (b off c N : Nat) (rs : List Rul) (n : Int) : Prop where
  alm : ∀ o, Calls Tryz.prog 106 #[.agg #[.int .i64 W, .slice p N c], .slice none 0 0] (w.alloc o) fun e w' => ∃ A, e = .returned (.tuple #[.pointer (some ⟨A, 0, none⟩), .int .i64 0]) ∧ w.heap.size ≤ A ∧ AlmE A W p b off c rs w' ∧ Below w.heap.size w w'
  day : ∀ wx, Calls Tryz.prog 107 #[.int .i64 n] wx fun e w' => e = .returned (.bool true) ∧ wx = w'
  near : ∀ s A wx, (s = 1 ∨ s = -1) → AlmE A W p b off c rs wx → Calls Tryz.prog 108 #[.pointer (some ⟨A, 0, none⟩), .int .i64 n, .int .i64 s] wx fun e w' => e = .returned (.tuple #[.int .i64 ((srch (opB W rs) n s).getD 0), .int .i64 (ansE (srch (opB W rs) n s))]) ∧ AlmE A W p b off c rs w' ∧ Below A wx w'
  nom : ∀ s A wx, (s = 1 ∨ s = -1) → AlmE A W p b off c rs wx → Calls Tryz.prog 109 #[.pointer (some ⟨A, 0, none⟩), .int .i64 n, .int .i64 s] wx fun e w' => e = .returned (.tuple #[.int .i64 ((nomO (opB W rs) n s).getD 0), .int .i64 (ansE (nomO (opB W rs) n s))]) ∧ AlmE A W p b off c rs w' ∧ Below A wx w'
theorem pubH_of (w : World) (W : Int) (p : Option Addr) (b off c : Nat) (rs : List Rul) (n : Int) (h : OkC W rs) (hs : RSrc w p b off rs) (hn : isDayP n) : PubH w W p b off c rs.length rs n where
  alm o := by
    have hb0 : Below w.heap.size w (w.alloc o) := (Below.refl w.heap.size w).alloc (Nat.le_refl _) _
    refine (almOf_ok W p none b off c 0 0 0 rs [] _ h (hs.below hb0) rfl (days_none _ _) (by omega) (fun j hj => by omega)).mono ?_
    rintro e w' ⟨A, he, hA, hE, hb⟩
    exact ⟨A, he, Nat.le_trans hb0.size hA, hE, hb0.trans (hb.mono hb0.size)⟩
  day wx := by
    have := turnedQ (isDay6_any n wx)
    rw [decide_eq_true hn] at this; exact this
  near s A wx hs' hE := nearest_any A _ _ n s wx (opH A W p b off c rs) hE hn hs'
  nom s A wx hs' hE := nom_any A _ _ n s wx (opH A W p b off c rs) hE hn hs'

set_option maxHeartbeats 3200000 in
theorem adjP_ok (W n way : Int) (p : Option Addr) (b off c : Nat) (rs : List Rul) (w : World) (h : OkC W rs) (hs : RSrc w p b off rs) (hw : 0 ≤ way ∧ way ≤ 4) (hn : isDayP n) :
    Calls Tryz.prog 60 #[.agg #[.int .i64 W, .slice p rs.length c], .int .i64 n, .int .i64 way] w fun e w' => e = .returned (.tuple #[.int .i64 ((adjO (opB W rs) n way).getD 0), .int .i64 (ansE (adjO (opB W rs) n way))]) ∧ Below w.heap.size w w' := by
  have H := hideS (pubH_of w W p b off c rs n h hs hn)
  generalize rs.length = N at *
  clear h hs hn
  rcases (show way = 0 ∨ way = 1 ∨ way = 2 ∨ way = 3 ∨ way = 4 by omega) with rfl | rfl | rfl | rfl | rfl
  · rw [adjO_0, show ansE (some n) = 0 from rfl, show (some n : Option Int).getD 0 = n from rfl]
    clear hw
    go_enter Tryz.func60, Tryz.ntmps60
    go_wp2_with (first | (go_at_call 106; refine (H.out.alm _).mono ?_; rintro e w1 ⟨A, rfl, hA, hE, hb1⟩) | (go_at_call 107; refine (H.out.day _).mono ?_; rintro e w2 ⟨rfl, rfl⟩))
    go_ret2
    exact ⟨rfl, hb1⟩
  · rw [adjO_1]
    have HN := hideS (fun A wx => H.out.near 1 A wx (Or.inl rfl))
    generalize (srch (opB W rs) n 1).getD 0 = X at *
    generalize ansE (srch (opB W rs) n 1) = Z at *
    clear hw
    go_enter Tryz.func60, Tryz.ntmps60
    go_wp2_with (first | (go_at_call 106; refine (H.out.alm _).mono ?_; rintro e w1 ⟨A, rfl, hA, hE, hb1⟩) | (go_at_call 107; refine (H.out.day _).mono ?_; rintro e w2 ⟨rfl, rfl⟩) | (go_at_call 108; refine (HN.out _ _ hE).mono ?_; rintro e w3 ⟨rfl, _, hb3⟩))
    go_ret2
    exact ⟨rfl, hb1.trans (hb3.mono hA)⟩
  · rw [adjO_2]
    have HN := hideS (fun A wx => H.out.near (-1) A wx (Or.inr rfl))
    generalize (srch (opB W rs) n (-1)).getD 0 = X at *
    generalize ansE (srch (opB W rs) n (-1)) = Z at *
    clear hw
    go_enter Tryz.func60, Tryz.ntmps60
    go_wp2_with (first | (go_at_call 106; refine (H.out.alm _).mono ?_; rintro e w1 ⟨A, rfl, hA, hE, hb1⟩) | (go_at_call 107; refine (H.out.day _).mono ?_; rintro e w2 ⟨rfl, rfl⟩) | (go_at_call 108; refine (HN.out _ _ hE).mono ?_; rintro e w3 ⟨rfl, _, hb3⟩))
    go_ret2
    exact ⟨rfl, hb1.trans (hb3.mono hA)⟩
  · rw [adjO_3]
    have HN := hideS (fun A wx => H.out.nom 1 A wx (Or.inl rfl))
    generalize (nomO (opB W rs) n 1).getD 0 = X at *
    generalize ansE (nomO (opB W rs) n 1) = Z at *
    clear hw
    go_enter Tryz.func60, Tryz.ntmps60
    go_wp2_with (first | (go_at_call 106; refine (H.out.alm _).mono ?_; rintro e w1 ⟨A, rfl, hA, hE, hb1⟩) | (go_at_call 107; refine (H.out.day _).mono ?_; rintro e w2 ⟨rfl, rfl⟩) | (go_at_call 109; refine (HN.out _ _ hE).mono ?_; rintro e w3 ⟨rfl, _, hb3⟩))
    go_ret2
    exact ⟨rfl, hb1.trans (hb3.mono hA)⟩
  · rw [adjO_4]
    have HN := hideS (fun A wx => H.out.nom (-1) A wx (Or.inr rfl))
    generalize (nomO (opB W rs) n (-1)).getD 0 = X at *
    generalize ansE (nomO (opB W rs) n (-1)) = Z at *
    clear hw
    go_enter Tryz.func60, Tryz.ntmps60
    go_wp2_with (first | (go_at_call 106; refine (H.out.alm _).mono ?_; rintro e w1 ⟨A, rfl, hA, hE, hb1⟩) | (go_at_call 107; refine (H.out.day _).mono ?_; rintro e w2 ⟨rfl, rfl⟩) | (go_at_call 109; refine (HN.out _ _ hE).mono ?_; rintro e w3 ⟨rfl, _, hb3⟩))
    go_ret2
    exact ⟨rfl, hb1.trans (hb3.mono hA)⟩

theorem alm_ok1 (W n : Int) (p : Option Addr) (b off c : Nat) (rs : List Rul) (w : World) (h : OkC W rs) (hs : RSrc w p b off rs) (hn : isDayP n) (o : Obj) :
    Calls Tryz.prog 106 #[.agg #[.int .i64 W, .slice p rs.length c], .slice (some ⟨w.heap.size + 1, 0, none⟩) 1 1] ((w.alloc o).alloc (.cells #[.int .i64 n] 3)) fun e w' => ∃ A, e = .returned (.tuple #[.pointer (some ⟨A, 0, none⟩), .int .i64 0]) ∧ w.heap.size ≤ A ∧ AlmE A W p b off c rs w' ∧ Below w.heap.size w w' := by
  refine (almOf_ok W p _ b off c (w.heap.size + 1) 1 1 rs [n] _ h (hs.below (below2 w o _)) rfl (days_one w o n) (by omega) (one_day hn)).mono ?_
  rintro e w' ⟨A, he, hA, hE, hb⟩
  have := (below2 w o (.cells #[.int .i64 n] 3)).size
  exact ⟨A, he, Nat.le_trans this hA, hE, (below2 w o _).trans (hb.mono this)⟩

set_option maxHeartbeats 800000 in
theorem addP_ok (W n k : Int) (p : Option Addr) (b off c : Nat) (rs : List Rul) (w : World) (h : OkC W rs) (hs : RSrc w p b off rs) (hn : isDayP n) (hk : k ≠ 0) (k0 : -9223372036854775808 ≤ k) (k1 : k ≤ 9223372036854775807) :
    Calls Tryz.prog 110 #[.agg #[.int .i64 W, .slice p rs.length c], .int .i64 n, .int .i64 k] w fun e w' => e = .returned (.tuple #[.int .i64 ((addO (opB W rs) (if k < 0 then -1 else 1) k.natAbs n).getD 0), .int .i64 (ansE (addO (opB W rs) (if k < 0 then -1 else 1) k.natAbs n))]) ∧ Below w.heap.size w w' := by
  have HA := hideS (fun o => alm_ok1 W n p b off c rs w h hs hn o)
  have HW : Hid (∀ A wx, AlmE A W p b off c rs wx → Calls Tryz.prog 153 #[.pointer (some ⟨A, 0, none⟩), .int .i64 n, .int .i64 k] wx fun e w' => e = .returned (.tuple #[.int .i64 ((addO (opB W rs) (if k < 0 then -1 else 1) k.natAbs n).getD 0), .int .i64 (ansE (addO (opB W rs) (if k < 0 then -1 else 1) k.natAbs n))]) ∧ AlmE A W p b off c rs w' ∧ Below A wx w') := fun A wx hE => walk_any A _ _ n k _ wx (opH A W p b off c rs) hE hn hk k0 k1 rfl
  generalize (addO (opB W rs) (if k < 0 then -1 else 1) k.natAbs n).getD 0 = X at *
  generalize ansE (addO (opB W rs) (if k < 0 then -1 else 1) k.natAbs n) = Z at *
  generalize rs.length = N at *
  have hk' : (k == 0) = false := beq_eq_false_iff_ne.2 hk
  clear h hs hn hk
  go_enter Tryz.func110, Tryz.ntmps110
  go_wp2_with (first | (go_at_call 106; refine (HA.out _).mono ?_; rintro e w1 ⟨A, rfl, hA, hE, hb1⟩) | (go_at_call 153; refine (HW.out _ _ hE).mono ?_; rintro e w2 ⟨rfl, _, hb2⟩))
  go_ret2
  exact ⟨rfl, hb1.trans (hb2.mono hA)⟩

theorem alm_ok2 (W x y : Int) (p : Option Addr) (b off c : Nat) (rs : List Rul) (w : World) (h : OkC W rs) (hs : RSrc w p b off rs) (hx : isDayP x) (hy : isDayP y) (o : Obj) :
    Calls Tryz.prog 106 #[.agg #[.int .i64 W, .slice p rs.length c], .slice (some ⟨w.heap.size + 1, 0, none⟩) 2 2] ((w.alloc o).alloc (.cells #[.int .i64 x, .int .i64 y] 3)) fun e w' => ∃ A, e = .returned (.tuple #[.pointer (some ⟨A, 0, none⟩), .int .i64 0]) ∧ w.heap.size ≤ A ∧ AlmE A W p b off c rs w' ∧ Below w.heap.size w w' := by
  refine (almOf_ok W p _ b off c (w.heap.size + 1) 2 2 rs [x, y] _ h (hs.below (below2 w o _)) rfl (days_two w o x y) (by omega) (two_day hx hy)).mono ?_
  rintro e w' ⟨A, he, hA, hE, hb⟩
  have := (below2 w o (.cells #[.int .i64 x, .int .i64 y] 3)).size
  exact ⟨A, he, Nat.le_trans this hA, hE, (below2 w o _).trans (hb.mono this)⟩

set_option maxHeartbeats 800000 in
theorem cntP_up (W x y : Int) (p : Option Addr) (b off c : Nat) (rs : List Rul) (w : World) (h : OkC W rs) (hs : RSrc w p b off rs) (hx : isDayP x) (hy : isDayP y) (hxy : x ≤ y) :
    Calls Tryz.prog 158 #[.agg #[.int .i64 W, .slice p rs.length c], .int .i64 x, .int .i64 y] w fun e w' => e = .returned (.tuple #[.int .i64 (cntN (opB W rs) x (y - x).toNat : Nat), .int .i64 0]) ∧ Below w.heap.size w w' := by
  have HA := hideS (fun o => alm_ok2 W x y p b off c rs w h hs hx hy o)
  have HW : Hid (∀ A wx, AlmE A W p b off c rs wx → Calls Tryz.prog 184 #[.pointer (some ⟨A, 0, none⟩), .int .i64 x, .int .i64 y] wx fun e w' => e = .returned (.int .i64 (cntN (opB W rs) x (y - x).toNat : Nat)) ∧ AlmE A W p b off c rs w' ∧ Below A wx w') := fun A wx hE => count_any A _ _ x y wx (opH A W p b off c rs) hE hx hy hxy
  generalize ((cntN (opB W rs) x (y - x).toNat : Nat) : Int) = X at *
  generalize rs.length = N at *
  have hxy' : ¬ y < x := by omega
  clear h hs hx hy
  go_enter Tryz.func158, Tryz.ntmps158
  go_wp2_with (first | (go_at_call 106; refine (HA.out _).mono ?_; rintro e w1 ⟨A, rfl, hA, hE, hb1⟩) | (go_at_call 184; refine (HW.out _ _ hE).mono ?_; rintro e w2 ⟨rfl, _, hb2⟩))
  go_ret2
  exact ⟨rfl, hb1.trans (hb2.mono hA)⟩

set_option maxHeartbeats 800000 in
theorem cntP_bad (W x y : Int) (p : Option Addr) (b off c : Nat) (rs : List Rul) (A B E : Int) (w : World) (h : ChkR W rs A B) (hs : RSrc w p b off rs) (hl : rs.length ≤ 9223372036854775807) (hE : (A ≠ 0 ∧ E = A) ∨ (A = 0 ∧ ¬ (isDayP x ∧ isDayP y) ∧ E = 51)) :
    Calls Tryz.prog 158 #[.agg #[.int .i64 W, .slice p rs.length c], .int .i64 x, .int .i64 y] w fun e w' => e = .returned (.tuple #[.int .i64 0, .int .i64 E]) ∧ Below w.heap.size w w' := by
  have HA : Hid (∀ o, Calls Tryz.prog 106 #[.agg #[.int .i64 W, .slice p rs.length c], .slice (some ⟨w.heap.size + 1, 0, none⟩) 2 2] ((w.alloc o).alloc (.cells #[.int .i64 x, .int .i64 y] 3)) fun e w' => e = .returned (.tuple #[.pointer none, .int .i64 E]) ∧ Below w.heap.size w w') := fun o => by
    have hbad : A ≠ 0 ∨ ∃ j < 2, ¬ isDayP ([x, y].getD j 0) := by
      rcases hE with ⟨a, _⟩ | ⟨_, a, _⟩
      · exact Or.inl a
      · by_cases hx : isDayP x
        · exact Or.inr ⟨1, by omega, fun c => a ⟨hx, c⟩⟩
        · exact Or.inr ⟨0, by omega, hx⟩
    have hEE : (if A ≠ 0 then A else 51) = E := by
      rcases hE with ⟨a, e⟩ | ⟨a, _, e⟩
      · rw [if_pos a, e]
      · rw [if_neg (fun c => c a), e]
    have := almOf_bad W p _ b off c (w.heap.size + 1) 2 2 rs [x, y] A B _ h (hs.below (below2 w o _)) hl rfl (days_two w o x y) (by omega) hbad
    rw [hEE] at this
    exact this.mono fun e w' ⟨he, hb⟩ => ⟨he, (below2 w o _).trans (hb.mono (below2 w o (.cells #[.int .i64 x, .int .i64 y] 3)).size)⟩
  have hne : (E != 0) = true := by
    rcases hE with ⟨a, e⟩ | ⟨_, _, e⟩
    · rw [e]; exact bne_iff_ne.2 a
    · rw [e]; rfl
  generalize rs.length = N at *
  clear h hs hl hE
  go_enter Tryz.func158, Tryz.ntmps158
  go_wp2_with (go_at_call 106; refine (HA.out _).mono ?_; rintro e w1 ⟨rfl, hb1⟩)
  go_ret2
  exact ⟨rfl, hb1⟩
end Go.Proofs.YtpcgbcdldkmibaaGreat
