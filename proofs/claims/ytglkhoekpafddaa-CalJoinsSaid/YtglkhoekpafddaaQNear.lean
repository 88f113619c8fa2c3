/- The contracts of nearest, isSameMonth, nearestOfMonth and count. -/
import Derived.Test.YtglkhoekpafddaaQWalk
namespace Go.Proofs.Ytglkhoekpafddaa
open Go.RowKit

set_option maxHeartbeats 800000 in
theorem nearest_any (A : Nat) (op : Int → Bool) (E : World → Prop) (n s : Int) (w : World) (HO : Hid (OpH A op E)) (HE : Hid (E w)) (hn : isDayP n) (hs : s = 1 ∨ s = -1) :
    Calls Try.prog 33 #[.pointer (some ⟨A, 0, none⟩), .int .i64 n, .int .i64 s] w fun e w' => e = .returned (.tuple #[.int .i64 ((srch op n s).getD 0), .int .i64 (ansE (srch op n s))]) ∧ E w' ∧ Below A w w' := by
  have HOn := hideS (HO.out n w hn HE.out)
  cases hop : op n
  · rw [hop] at HOn
    have HW : Hid (∀ wx, E wx → Calls Try.prog 35 #[.pointer (some ⟨A, 0, none⟩), .int .i64 n, .int .i64 s] wx fun e w' => e = .returned (.tuple #[.int .i64 ((srch op n s).getD 0), .int .i64 (ansE (srch op n s))]) ∧ E w' ∧ Below A wx w') := fun wx hE => by
      have := walk_any A op E n s s wx HO hE hn (by omega) (by omega) (by omega) (by rcases hs with rfl | rfl <;> rfl)
      rw [show s.natAbs = 1 by omega, addO_one, ← srch_shut hs hn hop] at this
      exact this
    generalize (srch op n s).getD 0 = X at *
    generalize ansE (srch op n s) = Z at *
    clear hn hop hs
    go_enter Try.func33, Try.ntmps33
    go_wp2_with (first | (go_at_call 30; refine HOn.out.mono ?_; rintro e w1 ⟨rfl, hE1, hb1⟩) | (go_at_call 35; refine (HW.out _ hE1).mono ?_; rintro e w2 ⟨rfl, hE2, hb2⟩))
    go_ret2
    exact ⟨rfl, hE2, hb1.trans hb2⟩
  · rw [hop] at HOn
    rw [srch_hit hn hop]
    clear hn hop hs
    go_enter Try.func33, Try.ntmps33
    go_wp2_with (go_at_call 30; refine HOn.out.mono ?_; rintro e w1 ⟨rfl, hE1, hb1⟩)
    go_ret2
    exact ⟨rfl, hE1, hb1⟩

set_option maxHeartbeats 800000 in
theorem sameMonth_any (a b : Int) (w : World) (ha : isDayP a) (hb : isDayP b) :
    Calls Try.prog 49 #[.int .i64 a, .int .i64 b] w fun e w' => e = .returned (.bool (decide (moI a = moI b))) ∧ w' = w := by
  obtain ⟨y, m, d, hd⟩ := isD_ex ha.1 ha.2
  obtain ⟨y', m', d', hd'⟩ := isD_ex hb.1 hb.2
  rw [mo_eq hd, mo_eq hd']
  have HC := hideS (fun wx => civil_ok a y m d wx hd)
  have HC' := hideS (fun wx => civil_ok b y' m' d' wx hd')
  obtain ⟨_, _, m1, m2, _, _⟩ := hd.1
  obtain ⟨_, _, m1', m2', _, _⟩ := hd'.1
  by_cases hab : a = b
  · subst hab
    obtain ⟨rfl, rfl, rfl⟩ := hd.unique hd'
    rw [decide_eq_true rfl]
    clear ha hb hd hd' HC'
    go_enter Try.func49, Try.ntmps49
    go_wp2_with (go_at_call 56; refine (HC.out _).mono ?_; rintro e w1 ⟨rfl, rfl⟩)
    go_ret
    exact ⟨rfl, rfl⟩
  · have hK : decide (12 * y + m = 12 * y' + m') = (y == y' && m == m') := by
      rw [Bool.eq_iff_iff, decide_eq_true_eq, Bool.and_eq_true, beq_iff_eq, beq_iff_eq]; omega
    rw [hK]
    clear ha hb hd hd' hK hab
    cases hy : (y == y')
    all_goals
      go_enter Try.func49, Try.ntmps49
      go_wp2_with (first | (go_at_call_of 56 (Value.int IntKind.i64 a); refine (HC.out _).mono ?_; rintro e w1 ⟨rfl, rfl⟩) | (go_at_call 56; refine (HC'.out _).mono ?_; rintro e w1 ⟨rfl, rfl⟩))
      go_ret
      exact ⟨rfl, rfl⟩

open Classical in
/-- What nearestOfMonth tells. -/
noncomputable def nomO (op : Int → Bool) (n s : Int) : Option Int := if ∀ x, srch op n s = some x → moI x ≠ moI n then srch op n (-s) else srch op n s

set_option maxHeartbeats 1600000 in
theorem nom_any (A : Nat) (op : Int → Bool) (E : World → Prop) (n s : Int) (w : World) (HO : Hid (OpH A op E)) (HE : Hid (E w)) (hn : isDayP n) (hs : s = 1 ∨ s = -1) :
    Calls Try.prog 34 #[.pointer (some ⟨A, 0, none⟩), .int .i64 n, .int .i64 s] w fun e w' => e = .returned (.tuple #[.int .i64 ((nomO op n s).getD 0), .int .i64 (ansE (nomO op n s))]) ∧ E w' ∧ Below A w w' := by
  have HN1 := hideS (nearest_any A op E n s w HO HE hn hs)
  have HN2 : Hid (∀ wx, E wx → Calls Try.prog 33 #[.pointer (some ⟨A, 0, none⟩), .int .i64 n, .int .i64 (-s)] wx fun e w' => e = .returned (.tuple #[.int .i64 ((srch op n (-s)).getD 0), .int .i64 (ansE (srch op n (-s)))]) ∧ E w' ∧ Below A wx w') := fun wx hE => nearest_any A op E n (-s) wx HO hE hn (by omega)
  have hday : ∀ x, srch op n s = some x → isDayP x := fun x hx => by
    have := srch_is op n s hs (by have := hn.1; omega) (by have := hn.2; omega)
    rw [hx] at this
    exact (srch_day this).1
  have turn : (∀ x, srch op n s = some x → moI x ≠ moI n) → nomO op n s = srch op n (-s) := fun h => by unfold nomO; rw [if_pos h]
  have stay : ∀ x, srch op n s = some x → moI x = moI n → nomO op n s = some x := fun x h h2 => by
    unfold nomO; rw [if_neg (fun a => a x h h2), h]
  generalize nomO op n s = R at *
  obtain ⟨o, ho⟩ : ∃ o, srch op n s = o := ⟨_, rfl⟩
  rw [ho] at HN1 hday turn stay
  clear ho
  rcases o with _ | x
  · rw [turn (fun x hx => by cases hx)]
    clear turn stay hday
    generalize (srch op n (-s)).getD 0 = X at *
    generalize ansE (srch op n (-s)) = Z at *
    rw [show ansE none = 51 from rfl, show (none : Option Int).getD 0 = 0 from rfl] at HN1
    clear hn
    rcases hs with rfl | rfl
    all_goals
      go_enter Try.func34, Try.ntmps34
      go_wp2_with fail
      refine HN1.out.mono ?_
      rintro e w1 ⟨rfl, hE1, hb1⟩
      have HE1 := hideS hE1
      have HB1 := hideS hb1
      clear hE1 hb1
      go_wp2_with (go_at_call 33; refine (HN2.out _ HE1.out).mono ?_; rintro e w2 ⟨rfl, hE2, hb2⟩)
      go_ret2
      exact ⟨rfl, hE2, HB1.out.trans hb2⟩
  · have hx := hday x rfl
    have HS := hideS (fun wx => sameMonth_any n x wx hn hx)
    rw [show ansE (some x) = 0 from rfl, show (some x : Option Int).getD 0 = x from rfl] at HN1
    by_cases hm : moI x = moI n
    · rw [stay x rfl hm]
      rw [decide_eq_true hm.symm] at HS
      rw [show ansE (some x) = 0 from rfl, show (some x : Option Int).getD 0 = x from rfl]
      clear turn stay hday hm hx hn HN2
      go_enter Try.func34, Try.ntmps34
      go_wp2_with (first | (go_at_call 33; refine HN1.out.mono ?_; rintro e w1 ⟨rfl, hE1, hb1⟩) | (go_at_call 49; refine (turnedQ (HS.out _)).mono ?_; rintro e w2 ⟨rfl, rfl⟩))
      go_ret2
      exact ⟨rfl, hE1, hb1⟩
    · rw [turn (fun y hy => by rw [← Option.some.inj hy]; exact hm)]
      rw [decide_eq_false (fun a => hm a.symm)] at HS
      clear turn stay hday hm hx hn
      generalize (srch op n (-s)).getD 0 = X at *
      generalize ansE (srch op n (-s)) = Z at *
      rcases hs with rfl | rfl
      all_goals
        go_enter Try.func34, Try.ntmps34
        go_wp2_with fail
        refine HN1.out.mono ?_
        rintro e w1 ⟨rfl, hE1, hb1⟩
        have HE1 := hideS hE1
        have HB1 := hideS hb1
        clear hE1 hb1
        go_wp2_with (first | (go_at_call 49; refine (turnedQ (HS.out _)).mono ?_; rintro e w2 ⟨rfl, rfl⟩) | (go_at_call 33; refine (HN2.out _ HE1.out).mono ?_; rintro e w2 ⟨rfl, hE2, hb2⟩))
        go_ret2
        exact ⟨rfl, hE2, HB1.out.trans hb2⟩

set_option maxHeartbeats 800000 in
theorem count_any (A : Nat) (op : Int → Bool) (E : World → Prop) (a b : Int) (w : World) (HO : Hid (OpH A op E)) (HE : Hid (E w)) (ha : isDayP a) (hb : isDayP b) (hab : a ≤ b) :
    Calls Try.prog 36 #[.pointer (some ⟨A, 0, none⟩), .int .i64 a, .int .i64 b] w fun e w' => e = .returned (.int .i64 (cntN op a (b - a).toNat : Nat)) ∧ E w' ∧ Below A w w' := by
  have a0 := ha.1
  have b1 := hb.2
  clear ha hb
  obtain ⟨R, hR⟩ : ∃ R : Int, ((cntN op a (b - a).toNat : Nat) : Int) = R := ⟨_, rfl⟩
  rw [hR]
  have HR := hideS hR
  clear hR
  go_enter Try.func36, Try.ntmps36
  go_wp2_with fail
  go_loopw [7, 8] (fun q i wr => ∃ (j : Nat) (x z : Int), a ≤ x ∧ x ≤ b ∧ 0 ≤ z ∧ z ≤ 110000 ∧ i = .int .i64 x ∧ q = .int .i64 z ∧ Hid (E wr) ∧ Hid (Below A w wr) ∧ Hid (x = a + j ∧ z = (cntN op a j : Nat) ∧ cntN op a j ≤ j)) (fun _ i _ => (b - intOf i).toNat)
  case atStart => exact ⟨0, a, 0, by omega, by omega, by omega, by omega, rfl, rfl, HE, Below.refl _ _, ⟨by omega, rfl, Nat.le_refl _⟩⟩
  case round =>
    clear HE
    obtain ⟨j, x, z, x0, x1, z0, z1, rfl, rfl, HE, HB, HJ⟩ := hrel
    by_cases hlt : x < b
    · have HOx := hideS (HO.out x wr ⟨by omega, by omega⟩ HE.out)
      have hc : cntN op a (j + 1) = cntN op a j + (if op x then 1 else 0) := by rw [HJ.out.1]; rfl
      have hle := cnt_le op a (j + 1)
      have hJ := HJ.out
      cases hop : op x
      · rw [hop] at HOx hc
        rw [if_neg Bool.false_ne_true] at hc
        have HJ' : Hid (x + 1 = a + ((j + 1 : Nat) : Int) ∧ z = (cntN op a (j + 1) : Nat) ∧ cntN op a (j + 1) ≤ j + 1) := ⟨by omega, by omega, hle⟩
        clear hc hle hJ hop
        go_wp2_with (go_at_call 30; refine HOx.out.mono ?_; rintro e w1 ⟨rfl, hE1, hb1⟩)
        have HE1 := hideS hE1
        have HB1 := hideS (HB.out.trans hb1)
        clear hE1 hb1
        go_roundw
        case rel => exact ⟨j + 1, x + 1, z, by omega, by omega, by omega, by omega, rfl, rfl, HE1, HB1, HJ'⟩
        case measure => simp [intOf]; omega
      · rw [hop] at HOx hc
        rw [if_pos rfl] at hc
        have HJ' : Hid (x + 1 = a + ((j + 1 : Nat) : Int) ∧ z + 1 = (cntN op a (j + 1) : Nat) ∧ cntN op a (j + 1) ≤ j + 1) := ⟨by omega, by omega, hle⟩
        have z2 : z + 1 ≤ 110000 := by omega
        clear hc hle hJ hop
        go_wp2_with (go_at_call 30; refine HOx.out.mono ?_; rintro e w1 ⟨rfl, hE1, hb1⟩)
        have HE1 := hideS hE1
        have HB1 := hideS (HB.out.trans hb1)
        clear hE1 hb1
        go_roundw
        case rel => exact ⟨j + 1, x + 1, z + 1, by omega, by omega, by omega, by omega, rfl, rfl, HE1, HB1, HJ'⟩
        case measure => simp [intOf]; omega
    · have HZ : Hid (z = R) := by
        obtain ⟨e1, e2, _⟩ := HJ.out
        show _ = _
        rw [← HR.out, e2, show (b - a).toNat = j by omega]
      go_wp2_with fail
      go_ret
      obtain rfl := HZ.out
      exact ⟨rfl, HE.out, HB.out⟩
end Go.Proofs.Ytglkhoekpafddaa
