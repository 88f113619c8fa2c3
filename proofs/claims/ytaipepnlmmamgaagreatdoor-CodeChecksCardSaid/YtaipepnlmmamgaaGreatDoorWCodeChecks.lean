/- The walk of CodeChecks. -/
import Derived.Test.YtaipepnlmmamgaaGreatDoorHbf
import Derived.Test.YtaipepnlmmamgaaGreatDoorHbd
import Derived.Test.YtaipepnlmmamgaaGreatDoorHbc
namespace Go.Proofs.YtaipepnlmmamgaaGreatDoor
open Go.RowKit

theorem first_not (P : Nat → Prop) : ∀ n, (∀ i < n, P i) ∨ ∃ k, k < n ∧ ¬ P k ∧ ∀ i < k, P i
  | 0 => .inl fun i h => by omega
  | n + 1 => by
    rcases first_not P n with h | ⟨k, hk, h1, h2⟩
    · by_cases hp : P n
      · exact .inl fun i hi => by
          by_cases e : i = n
          · rw [e]; exact hp
          · exact h i (by omega)
      · exact .inr ⟨n, by omega, hp, h⟩
    · exact .inr ⟨k, by omega, h1, h2⟩
theorem meaR_ex (l : List Opr) : ∃ M E A, MeaR l M E A := by
  by_cases hl : 8192 < l.length
  · exact ⟨_, _, _, .long hl⟩
  · rcases first_not (fun i => badO (l.getD i opr0) (mkN l i) = 0) l.length with h | ⟨k, hk, h1, h2⟩
    · by_cases hm : 0 < mkN l l.length
      · exact ⟨_, _, _, .left (by omega) h hm⟩
      · exact ⟨_, _, _, .fine (by omega) h hm⟩
    · exact ⟨_, _, _, .bad k _ (by omega) hk h2 rfl h1⟩
set_option maxRecDepth 20000 in
set_option maxHeartbeats 12800000 in
theorem codeChecks_walk (p : Option Addr) (b off c : Nat) (l : List Opr) (w : World) (hs : OSrc w p b off l) (hu : ∀ i < l.length, OpU (l.getD i opr0)) (hc : l.length * 72 ≤ 140737488355328) {bp op cp : Nat} (hp : PfT 6 5 9 bp op cp w) :
    Calls Tryz.prog 3 #[.slice p l.length c] w fun e w' => e = .returned (.bool true) ∧ Below w.heap.size w w' := by
  obtain ⟨M, E, A, hm⟩ := meaR_ex l
  have HO := hidD (r18Of_any l l.length p b off c w hs rfl hc)
  have HC : Hid (∀ w1, Below w.heap.size w w1 → Calls Tryz.prog 5 #[.slice p l.length c] w1 fun e w' => e = .returned (.tuple #[.int .i64 E, .int .i64 A]) ∧ Below w.heap.size w w' ∧ Below w1.heap.size w1 w') := fun w1 hb => (cCheck_is hm l.length p b off c w1 (hs.below hb) rfl hu (by omega)).mono fun e w' ⟨he, h⟩ => ⟨he, hb.trans (h.mono hb.size), h⟩
  have HM : Hid (∀ w1, Below w.heap.size w w1 → Calls Tryz.prog 7 #[.slice p l.length c] w1 fun e w' => e = .returned (.tuple #[.int .i64 M, .int .i64 E]) ∧ Below w.heap.size w w' ∧ Below w1.heap.size w1 w') := fun w1 hb => (cMarks_is hm l.length p b off c w1 (hs.below hb) rfl hu (by omega)).mono fun e w' ⟨he, h⟩ => ⟨he, hb.trans (h.mono hb.size), h⟩
  have HDC : Hid (∀ w1 q g cq, Below w.heap.size w w1 → DSrc w1 q g 0 l → Calls Tryz.prog 6 #[.slice q l.length cq] w1 fun e w' => e = .returned (.tuple #[.int .i64 E, .int .i64 A]) ∧ Below w.heap.size w w' ∧ Below w1.heap.size w1 w') := fun w1 q g cq hb hd => (r18Check_any l l.length q g 0 cq w1 hd rfl hu (by omega)).mono fun e w' ⟨M', E', A', he, h', h⟩ => by
    obtain ⟨_, rfl, rfl⟩ := h'.unique hm
    exact ⟨he, hb.trans (h.mono hb.size), h⟩
  have HDM : Hid (∀ w1 q g cq, Below w.heap.size w w1 → DSrc w1 q g 0 l → Calls Tryz.prog 8 #[.slice q l.length cq] w1 fun e w' => e = .returned (.tuple #[.int .i64 M, .int .i64 E]) ∧ Below w.heap.size w w' ∧ Below w1.heap.size w1 w') := fun w1 q g cq hb hd => (r18Marks_any l l.length q g 0 cq w1 hd rfl hu (by omega)).mono fun e w' ⟨M', E', A', he, h', h⟩ => by
    obtain ⟨rfl, rfl, _⟩ := h'.unique hm
    exact ⟨he, hb.trans (h.mono hb.size), h⟩
  have HBk : Hid (E ≠ 0 → ∀ w1, Below w.heap.size w w1 → Calls Tryz.prog 10 #[.slice p l.length c] w1 fun e w' => e = .returned (.tuple #[.slice none 0 0, .int .i64 E]) ∧ Below w.heap.size w w') := fun hE w1 hb => (cBack_bad hm hE l.length p b off c w1 (hs.below hb) rfl hu (by omega)).mono fun e w' ⟨he, h⟩ => ⟨he, hb.trans (h.mono hb.size)⟩
  have HTr : Hid (E ≠ 0 → ∀ w1, Below w.heap.size w w1 → Calls Tryz.prog 11 #[.slice p l.length c] w1 fun e w' => e = .returned (.tuple #[.slice none 0 0, .int .i64 E]) ∧ Below w.heap.size w w') := fun hE w1 hb => (cTrim_bad hm hE l.length p b off c w1 (hs.below hb) rfl hu (by omega)).mono fun e w' ⟨he, h⟩ => ⟨he, hb.trans (h.mono hb.size)⟩
  have HAw : Hid (∀ w1, Below w.heap.size w w1 → Calls Tryz.prog 9 #[] w1 fun e w' => e = .returned (.bool true) ∧ Below w.heap.size w w') := fun w1 hb => (awake18 w1 (hp.below hb)).mono fun e w' ⟨he, h⟩ => ⟨he, hb.trans (h.mono hb.size)⟩
  generalize hN : l.length = N at HO HC HM HDC HDM HBk HTr ⊢
  have HN := hidD hN
  clear hs hu hc hm hp hN
  go_enter Tryz.func3, Tryz.ntmps3
  go_wp2_with fail
  refine HO.out.mono ?_
  rintro e w1 ⟨⟨q, cq, rfl, ho⟩, hb⟩
  obtain ⟨g, hd⟩ := dsrc_of ho HN.out
  have H1 := hidD (And.intro hb hd)
  clear ho hb hd
  go_wp2_with fail
  refine (HC.out _ H1.out.1).mono ?_
  rintro e w2 ⟨rfl, hb, hb'⟩
  have H2 := hidD (And.intro hb (H1.out.2.below hb'))
  clear hb hb'
  go_wp2_with fail
  refine (HDC.out _ _ _ _ H2.out.1 H2.out.2).mono ?_
  rintro e w3 ⟨rfl, hb, hb'⟩
  have H3 := hidD (And.intro hb (H2.out.2.below hb'))
  clear hb hb'
  go_wp2_with fail
  refine (HM.out _ H3.out.1).mono ?_
  rintro e w4 ⟨rfl, hb, hb'⟩
  have H4 := hidD (And.intro hb (H3.out.2.below hb'))
  clear hb hb'
  go_wp2_with fail
  refine (HDM.out _ _ _ _ H4.out.1 H4.out.2).mono ?_
  rintro e w5 ⟨rfl, hb, _⟩
  have H5 := hidD hb
  clear hb
  by_cases hE : E = 0
  · subst hE
    go_wp2_with fail
    refine (HAw.out _ H5.out).mono ?_
    rintro e w6 ⟨rfl, hb⟩
    have H6 := hidD hb
    clear hb
    go_wp2_with fail
    go_ret
    exact ⟨rfl, H6.out⟩
  · have HB' := hidD (HBk.out hE)
    have HT' := hidD (HTr.out hE)
    have z1 : (E == 0) = false := beq_eq_false_iff_ne.2 hE
    clear hE HBk HTr
    go_wp2_with fail
    refine (HB'.out _ H5.out).mono ?_
    rintro e w6 ⟨rfl, hb⟩
    have H6 := hidD hb
    clear hb
    go_wp2_with fail
    refine (HT'.out _ H6.out).mono ?_
    rintro e w7 ⟨rfl, hb⟩
    have H7 := hidD hb
    clear hb
    go_wp2_with fail
    refine (HAw.out _ H7.out).mono ?_
    rintro e w8 ⟨rfl, hb⟩
    have H8 := hidD hb
    clear hb
    go_wp2_with fail
    go_ret
    exact ⟨rfl, H8.out⟩
end Go.Proofs.YtaipepnlmmamgaaGreatDoor
