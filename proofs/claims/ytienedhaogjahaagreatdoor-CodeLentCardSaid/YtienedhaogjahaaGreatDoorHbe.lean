/- The document's side: whether a term's fields may be. The document's side: whether an op may be. An op may be by the program where it may be by the document. The document's Check, whatever code. The document's Of: code of the program's as the document's. -/
import Derived.Test.YtienedhaogjahaaGreatDoorHbd
import Derived.Test.YtienedhaogjahaaGreatDoorHba
import Derived.Test.YtienedhaogjahaaGreatDoorHaq
import Derived.Deep.QuietTactic
import Derived.BigQuiet
import Derived.RegionTactic
import Derived.Deep.RegionHeld3
import Derived.Deep.RegionLaw
namespace Go.Proofs.YtienedhaogjahaaGreatDoor
open Go.RowKit

def tn3 (t : Trm) : Trm := ⟨t.kind, t.a, t.b, t.x, t.y, t.day, t.to, t.cur, t.count, t.n, 0⟩
set_option maxRecDepth 20000 in
set_option maxHeartbeats 12800000 in
theorem flds_3 (t : Trm) (hk : t.kind = 3) (hux : U64 t.x) (huy : U64 t.y) (w : World) : Calls Tryz.prog 87 #[.agg (trD t)] w fun e w' => e = .returned (.bool (eqT t (tn3 t) && finB t.x && finB t.y && (decide (1 ≤ t.count) && decide (t.count ≤ 5)) && (decide (0 ≤ t.day) && decide (t.day ≤ 109572)) && (decide (0 ≤ t.to) && decide (t.to ≤ 109572)) && decide (t.day < t.to) && (decide (1 ≤ t.n) && decide (t.n ≤ 1200)) && (decide (1 ≤ t.cur) && decide (t.cur ≤ 8)))) ∧ Below w.heap.size w w' := by
  have heq0 := eqT_run t (tn3 t)
  have H0 := hidD (fun w => r1Num_any t.x w hux)
  obtain ⟨B0, hB0⟩ : ∃ B, finB t.x = B := ⟨_, rfl⟩
  rw [hB0]
  rw [hB0] at H0
  clear hB0
  have H1 := hidD (fun w => r1Num_any t.y w huy)
  obtain ⟨B1, hB1⟩ : ∃ B, finB t.y = B := ⟨_, rfl⟩
  rw [hB1]
  rw [hB1] at H1
  clear hB1
  have H2 := hidD (r17In_any t.count 1 5)
  obtain ⟨B2, hB2⟩ : ∃ B, (decide (1 ≤ t.count) && decide (t.count ≤ 5)) = B := ⟨_, rfl⟩
  rw [hB2]
  rw [hB2] at H2
  clear hB2
  have H3 := hidD (r17Day_any t.day)
  obtain ⟨B3, hB3⟩ : ∃ B, (decide (0 ≤ t.day) && decide (t.day ≤ 109572)) = B := ⟨_, rfl⟩
  rw [hB3]
  rw [hB3] at H3
  clear hB3
  have H4 := hidD (r17Day_any t.to)
  obtain ⟨B4, hB4⟩ : ∃ B, (decide (0 ≤ t.to) && decide (t.to ≤ 109572)) = B := ⟨_, rfl⟩
  rw [hB4]
  rw [hB4] at H4
  clear hB4
  obtain ⟨B5, hB5⟩ : ∃ B, decide (t.day < t.to) = B := ⟨_, rfl⟩
  rw [hB5]
  have H6 := hidD (r17In_any t.n 1 1200)
  obtain ⟨B6, hB6⟩ : ∃ B, (decide (1 ≤ t.n) && decide (t.n ≤ 1200)) = B := ⟨_, rfl⟩
  rw [hB6]
  rw [hB6] at H6
  clear hB6
  have H7 := hidD (r14Cur_any t.cur)
  obtain ⟨B7, hB7⟩ : ∃ B, (decide (1 ≤ t.cur) && decide (t.cur ≤ 8)) = B := ⟨_, rfl⟩
  rw [hB7]
  rw [hB7] at H7
  clear hB7
  obtain ⟨E, hE⟩ : ∃ E, eqT t (tn3 t) = E := ⟨_, rfl⟩
  rw [hE] at heq0 ⊢
  unfold trD tn3 at heq0
  simp only at heq0
  unfold trD
  rw [hk] at heq0 ⊢
  have heq : ∀ w, (binOp .eql 64 (.agg #[.int .i64 3, .int .i64 t.a, .int .i64 t.b, .int .u64 t.x, .int .u64 t.y, .int .i64 t.day, .int .i64 t.to, .int .i64 t.cur, .int .i64 t.count, .int .i64 t.n, .int .i64 t.months]) (.agg #[.int .i64 3, .int .i64 t.a, .int .i64 t.b, .int .u64 t.x, .int .u64 t.y, .int .i64 t.day, .int .i64 t.to, .int .i64 t.cur, .int .i64 t.count, .int .i64 t.n, .int .i64 0])).run Tryz.prog w = .ok (.bool E) w := heq0
  clear heq0
  clear hE hux huy
  have HB : Hid (Below w.heap.size w ((w.alloc (.cells #[.int .i64 3, .int .i64 t.a, .int .i64 t.b, .int .u64 t.x, .int .u64 t.y, .int .i64 t.day, .int .i64 t.to, .int .i64 t.cur, .int .i64 t.count, .int .i64 t.n, .int .i64 t.months] 64)).alloc (.cells #[.int .i64 3, .int .i64 t.a, .int .i64 t.b, .int .u64 t.x, .int .u64 t.y, .int .i64 t.day, .int .i64 t.to, .int .i64 t.cur, .int .i64 t.count, .int .i64 t.n, .int .i64 0] 64))) := ((Below.refl _ _).alloc (Nat.le_refl _) _).alloc (by simp) _
  cases E
  · go_enter Tryz.func87, Tryz.ntmps87
    go_wp2_with fail
    go_ret
    exact ⟨rfl, HB.out⟩
  cases B0
  · go_enter Tryz.func87, Tryz.ntmps87
    go_wp2_with fail
    refine (H0.out _).mono ?_
    rintro e w' ⟨rfl, rfl⟩
    go_wp2_with fail
    go_ret
    exact ⟨rfl, HB.out⟩
  cases B1
  · go_enter Tryz.func87, Tryz.ntmps87
    go_wp2_with fail
    refine (H0.out _).mono ?_
    rintro e w' ⟨rfl, rfl⟩
    go_wp2_with fail
    refine (H1.out _).mono ?_
    rintro e w' ⟨rfl, rfl⟩
    go_wp2_with fail
    go_ret
    exact ⟨rfl, HB.out⟩
  cases B2
  · go_enter Tryz.func87, Tryz.ntmps87
    go_wp2_with fail
    refine (H0.out _).mono ?_
    rintro e w' ⟨rfl, rfl⟩
    go_wp2_with fail
    refine (H1.out _).mono ?_
    rintro e w' ⟨rfl, rfl⟩
    go_wp2_with fail
    refine (H2.out _).mono ?_
    rintro e w' ⟨rfl, rfl⟩
    go_wp2_with fail
    go_ret
    exact ⟨rfl, HB.out⟩
  cases B3
  · go_enter Tryz.func87, Tryz.ntmps87
    go_wp2_with fail
    refine (H0.out _).mono ?_
    rintro e w' ⟨rfl, rfl⟩
    go_wp2_with fail
    refine (H1.out _).mono ?_
    rintro e w' ⟨rfl, rfl⟩
    go_wp2_with fail
    refine (H2.out _).mono ?_
    rintro e w' ⟨rfl, rfl⟩
    go_wp2_with fail
    refine (H3.out _).mono ?_
    rintro e w' ⟨rfl, rfl⟩
    go_wp2_with fail
    go_ret
    exact ⟨rfl, HB.out⟩
  cases B4
  · go_enter Tryz.func87, Tryz.ntmps87
    go_wp2_with fail
    refine (H0.out _).mono ?_
    rintro e w' ⟨rfl, rfl⟩
    go_wp2_with fail
    refine (H1.out _).mono ?_
    rintro e w' ⟨rfl, rfl⟩
    go_wp2_with fail
    refine (H2.out _).mono ?_
    rintro e w' ⟨rfl, rfl⟩
    go_wp2_with fail
    refine (H3.out _).mono ?_
    rintro e w' ⟨rfl, rfl⟩
    go_wp2_with fail
    refine (H4.out _).mono ?_
    rintro e w' ⟨rfl, rfl⟩
    go_wp2_with fail
    go_ret
    exact ⟨rfl, HB.out⟩
  cases B5
  · go_enter Tryz.func87, Tryz.ntmps87
    go_wp2_with fail
    refine (H0.out _).mono ?_
    rintro e w' ⟨rfl, rfl⟩
    go_wp2_with fail
    refine (H1.out _).mono ?_
    rintro e w' ⟨rfl, rfl⟩
    go_wp2_with fail
    refine (H2.out _).mono ?_
    rintro e w' ⟨rfl, rfl⟩
    go_wp2_with fail
    refine (H3.out _).mono ?_
    rintro e w' ⟨rfl, rfl⟩
    go_wp2_with fail
    refine (H4.out _).mono ?_
    rintro e w' ⟨rfl, rfl⟩
    go_wp2_with fail
    go_ret
    exact ⟨rfl, HB.out⟩
  cases B6
  · go_enter Tryz.func87, Tryz.ntmps87
    go_wp2_with fail
    refine (H0.out _).mono ?_
    rintro e w' ⟨rfl, rfl⟩
    go_wp2_with fail
    refine (H1.out _).mono ?_
    rintro e w' ⟨rfl, rfl⟩
    go_wp2_with fail
    refine (H2.out _).mono ?_
    rintro e w' ⟨rfl, rfl⟩
    go_wp2_with fail
    refine (H3.out _).mono ?_
    rintro e w' ⟨rfl, rfl⟩
    go_wp2_with fail
    refine (H4.out _).mono ?_
    rintro e w' ⟨rfl, rfl⟩
    go_wp2_with fail
    refine (H6.out _).mono ?_
    rintro e w' ⟨rfl, rfl⟩
    go_wp2_with fail
    go_ret
    exact ⟨rfl, HB.out⟩
  go_enter Tryz.func87, Tryz.ntmps87
  go_wp2_with fail
  refine (H0.out _).mono ?_
  rintro e w' ⟨rfl, rfl⟩
  go_wp2_with fail
  refine (H1.out _).mono ?_
  rintro e w' ⟨rfl, rfl⟩
  go_wp2_with fail
  refine (H2.out _).mono ?_
  rintro e w' ⟨rfl, rfl⟩
  go_wp2_with fail
  refine (H3.out _).mono ?_
  rintro e w' ⟨rfl, rfl⟩
  go_wp2_with fail
  refine (H4.out _).mono ?_
  rintro e w' ⟨rfl, rfl⟩
  go_wp2_with fail
  refine (H6.out _).mono ?_
  rintro e w' ⟨rfl, rfl⟩
  go_wp2_with fail
  refine (H7.out _).mono ?_
  rintro e w' ⟨rfl, rfl⟩
  go_wp2_with fail
  go_ret
  exact ⟨rfl, HB.out⟩
end Go.Proofs.YtienedhaogjahaaGreatDoor
namespace Go.Proofs.YtienedhaogjahaaGreatDoor
open Go.RowKit

def fldB (t : Trm) : Bool :=
  if t.kind = 1 then eqT t (tn1 t)
  else if t.kind = 2 then eqT t (tn2 t) && finB t.x && (decide (1 ≤ t.cur) && decide (t.cur ≤ 8)) && (decide (0 ≤ t.day) && decide (t.day ≤ 109572))
  else if t.kind = 3 then eqT t (tn3 t) && finB t.x && finB t.y && (decide (1 ≤ t.count) && decide (t.count ≤ 5)) && (decide (0 ≤ t.day) && decide (t.day ≤ 109572)) && (decide (0 ≤ t.to) && decide (t.to ≤ 109572)) && decide (t.day < t.to) && (decide (1 ≤ t.n) && decide (t.n ≤ 1200)) && (decide (1 ≤ t.cur) && decide (t.cur ≤ 8))
  else if t.kind = 4 then eqT t (tn4 t)
  else if t.kind = 5 then eqT t (tn5 t)
  else if t.kind = 6 then eqT t (tn6 t) && finB t.x
  else if t.kind = 7 then eqT t (tn7 t) && (decide (0 ≤ t.day) && decide (t.day ≤ 109572)) && (decide (0 ≤ t.to) && decide (t.to ≤ 109572))
  else if t.kind = 8 then eqT t (tn8 t) && (decide (1 ≤ t.n) && decide (t.n ≤ 4096)) && (decide (1 ≤ t.months) && decide (t.months ≤ 1200))
  else false
theorem flds_any (t : Trm) (hx : U64 t.x) (hy : U64 t.y) (w : World) : Calls Tryz.prog 87 #[.agg (trD t)] w fun e w' => e = .returned (.bool (fldB t)) ∧ Below w.heap.size w w' := by
  unfold fldB
  split
  · rename_i h; exact flds_1 t h w
  split
  · rename_i h; exact flds_2 t h hx w
  split
  · rename_i h; exact flds_3 t h hx hy w
  split
  · rename_i h; exact flds_4 t h w
  split
  · rename_i h; exact flds_5 t h w
  split
  · rename_i h; exact flds_6 t h hx w
  split
  · rename_i h; exact flds_7 t h w
  split
  · rename_i h; exact flds_8 t h w
  · exact flds_no t (by omega) w
def mkO : Opr := ⟨1, 0, 0, 0, 0, 0, 0, 0, 0⟩
def fitD (o : Opr) : Bool := if o.kind = 1 then eqP o mkO else decide (oTm o.kind ≠ 0) && fldB (tmO o)
set_option maxRecDepth 20000 in
set_option maxHeartbeats 6400000 in
theorem r18Fit_any (o : Opr) (hu : OpU o) (w : World) : Calls Tryz.prog 52 #[.agg (opD o)] w fun e w' => e = .returned (.bool (fitD o)) ∧ Below w.heap.size w w' := by
  have HB0 : Hid (Below w.heap.size w (w.alloc (.cells (opD o) 66))) := (Below.refl _ _).alloc (Nat.le_refl _) _
  unfold fitD
  by_cases hk : o.kind = 1
  · rw [if_pos hk]
    have heq0 := eqP_run o mkO
    obtain ⟨E, hE⟩ : ∃ E, eqP o mkO = E := ⟨_, rfl⟩
    rw [hE] at heq0 ⊢
    have heq : ∀ w, (binOp .eql 66 (.agg #[.int .i64 o.kind, .int .u64 o.x, .int .u64 o.y, .int .i64 o.day, .int .i64 o.to, .int .i64 o.cur, .int .i64 o.count, .int .i64 o.n, .int .i64 o.months]) (.agg #[.int .i64 1, .int .u64 0, .int .u64 0, .int .i64 0, .int .i64 0, .int .i64 0, .int .i64 0, .int .i64 0, .int .i64 0])).run Tryz.prog w = .ok (.bool E) w := heq0
    clear heq0 hE
    unfold opD at HB0
    unfold opD
    rw [hk] at heq HB0 ⊢
    go_enter Tryz.func52, Tryz.ntmps52
    go_wp2_with fail
    go_ret
    exact ⟨rfl, HB0.out⟩
  · rw [if_neg hk]
    have n1 : (o.kind == 1) = false := beq_eq_false_iff_ne.2 hk
    have HT := hidD (r18Term_any o)
    have HF := hidD (flds_any (tmO o) hu.x hu.y)
    generalize hF : fldB (tmO o) = F at HF ⊢
    clear hk hF
    unfold opD trD tmO at HT
    unfold trD tmO at HF
    simp only at HT HF
    unfold opD at HB0
    unfold opD
    generalize oTm o.kind = K at HT HF ⊢
    by_cases hK : K = 0
    · have z : (K != 0) = false := by rw [hK]; rfl
      rw [decide_eq_false (fun h => h hK)]
      clear hK
      go_enter Tryz.func52, Tryz.ntmps52
      go_wp2_with fail
      refine (HT.out _).mono ?_
      rintro e w1 ⟨rfl, hb1⟩
      have HB1 := hidD (HB0.out.trans (hb1.mono HB0.out.size))
      clear hb1 HB0
      have HB2 : Hid (∀ ob, Below w.heap.size w (w1.alloc ob)) := fun ob => HB1.out.alloc HB1.out.size ob
      go_wp2_with fail
      go_ret
      exact ⟨rfl, HB2.out _⟩
    · have z : (K != 0) = true := bne_iff_ne.2 hK
      rw [decide_eq_true hK]
      clear hK
      go_enter Tryz.func52, Tryz.ntmps52
      go_wp2_with fail
      refine (HT.out _).mono ?_
      rintro e w1 ⟨rfl, hb1⟩
      have HB1 := hidD (HB0.out.trans (hb1.mono HB0.out.size))
      clear hb1 HB0
      have HB2 : Hid (∀ ob, Below w.heap.size w (w1.alloc ob)) := fun ob => HB1.out.alloc HB1.out.size ob
      go_wp2_with fail
      refine (HF.out _).mono ?_
      rintro e w2 ⟨rfl, hb2⟩
      have HB3 := hidD ((HB2.out _).trans (hb2.mono (HB2.out _).size))
      clear hb2
      go_wp2_with fail
      go_ret
      exact ⟨rfl, HB3.out⟩
end Go.Proofs.YtienedhaogjahaaGreatDoor
namespace Go.Proofs.YtienedhaogjahaaGreatDoor
open Go.RowKit

theorem ord_00 : (FloatKind.f64.format.order 0 0 == some .eq) = true := by decide +kernel
theorem fin_self {x : Nat} (hx : U64 x) (h : finB x = true) : (FloatKind.f64.format.order x x == some .eq) = true := by
  rw [eq_self hx]
  cases hn : nanB (x : Int)
  · rfl
  · rw [fin_nan hn] at h; cases h
theorem zero_and (y : Nat) : ((FloatKind.f64.format.order y 0 == some .eq) && ((y : Int) == 0)) = ((y : Int) == 0) := by
  by_cases h : y = 0
  · subst h; rw [ord_00]; rfl
  · have : ((y : Int) == 0) = false := beq_eq_false_iff_ne.2 (by omega)
    rw [this, Bool.and_false]
theorem fin_and {x : Nat} (hx : U64 x) : ((FloatKind.f64.format.order x x == some .eq) && finB x) = finB x := by
  cases h : finB (x : Int)
  · rw [Bool.and_false]
  · rw [fin_self hx h]; rfl
theorem fit_same (o : Opr) (hu : OpU o) : fitD o = fitO o := by
  have z1 := zero_and o.y
  have z0 := zero_and o.x
  have f0 := fin_and hu.x
  have f1 := fin_and hu.y
  by_cases h1 : o.kind = 1
  · unfold fitD fitO; rw [if_pos h1, if_pos (.inl h1)]
    unfold eqP mkO eqO nmA
    simp only [h1, beq_self_eq_true, Bool.true_and, Bool.and_true]
    generalize (FloatKind.f64.format.order o.x 0 == some .eq) = a at *
    generalize (FloatKind.f64.format.order o.y 0 == some .eq) = b at *
    rw [show (((0 : Nat) : Int)) = 0 from rfl]
    generalize ((o.x : Int) == 0) = c at *
    generalize ((o.y : Int) == 0) = d at *
    generalize (o.day == 0) = e1; generalize (o.to == 0) = e2; generalize (o.cur == 0) = e3; generalize (o.count == 0) = e4; generalize (o.n == 0) = e5; generalize (o.months == 0) = e6
    revert z0 z1
    clear f0 f1
    cases a <;> cases b <;> cases c <;> cases d <;> simp
  by_cases h4 : o.kind = 4
  · have e : oTm o.kind = 4 := by unfold oTm; rw [h4]; rfl
    have ek : (tmO o).kind = 4 := e
    have hD : fitD o = fldB (tmO o) := by unfold fitD; rw [if_neg h1, decide_eq_true (by rw [e]; decide)]; rfl
    rw [hD]; unfold fldB fitO
    rw [if_neg (by rw [ek]; decide), if_neg (by rw [ek]; decide), if_neg (by rw [ek]; decide), if_pos ek]
    rw [if_pos (.inr h4)]
    unfold eqT tn4 tmO eqO nmA
    simp only [beq_self_eq_true, Bool.true_and, Bool.and_true]
    rw [show (((0 : Nat) : Int)) = 0 from rfl]
    generalize (FloatKind.f64.format.order o.x 0 == some .eq) = ax at z0 ⊢
    generalize ((o.x : Int) == 0) = bx at z0 ⊢
    revert z0; clear f0
    generalize (FloatKind.f64.format.order o.y 0 == some .eq) = ay at z1 ⊢
    generalize ((o.y : Int) == 0) = by_ at z1 ⊢
    revert z1; clear f1
    generalize (o.day == 0) = cday
    generalize (o.to == 0) = cto
    generalize (o.cur == 0) = ccur
    generalize (o.count == 0) = ccount
    generalize (o.n == 0) = cn
    generalize (o.months == 0) = cmonths
    clear hD ek e
    cases ax <;> cases bx <;> cases ay <;> cases by_ <;> simp
  by_cases h2 : o.kind = 2
  · have e : oTm o.kind = 2 := by unfold oTm; rw [h2]; rfl
    have ek : (tmO o).kind = 2 := e
    have hD : fitD o = fldB (tmO o) := by unfold fitD; rw [if_neg h1, decide_eq_true (by rw [e]; decide)]; rfl
    rw [hD]; unfold fldB fitO
    rw [if_neg (by rw [ek]; decide), if_pos ek]
    rw [if_neg (by omega), if_pos h2]
    unfold eqT tn2 tmO eqO nm2
    simp only [beq_self_eq_true, Bool.true_and, Bool.and_true]
    rw [show (((0 : Nat) : Int)) = 0 from rfl]
    generalize (FloatKind.f64.format.order o.x o.x == some .eq) = ax at f0 ⊢
    generalize finB (o.x : Int) = bx at f0 ⊢
    revert f0; clear z0
    generalize (FloatKind.f64.format.order o.y 0 == some .eq) = ay at z1 ⊢
    generalize ((o.y : Int) == 0) = by_ at z1 ⊢
    revert z1; clear f1
    generalize (o.to == 0) = cto
    generalize (o.count == 0) = ccount
    generalize (o.n == 0) = cn
    generalize (o.months == 0) = cmonths
    generalize ((decide (1 ≤ o.cur) && decide (o.cur ≤ 8))) = d0
    generalize ((decide (0 ≤ o.day) && decide (o.day ≤ 109572))) = d1
    clear hD ek e
    cases ax <;> cases bx <;> cases ay <;> cases by_ <;> cases d0 <;> cases d1 <;> simp
  by_cases h3 : o.kind = 3
  · have e : oTm o.kind = 3 := by unfold oTm; rw [h3]; rfl
    have ek : (tmO o).kind = 3 := e
    have hD : fitD o = fldB (tmO o) := by unfold fitD; rw [if_neg h1, decide_eq_true (by rw [e]; decide)]; rfl
    rw [hD]; unfold fldB fitO
    rw [if_neg (by rw [ek]; decide), if_neg (by rw [ek]; decide), if_pos ek]
    rw [if_neg (by omega), if_neg h2, if_pos h3]
    unfold eqT tn3 tmO eqO nm3
    simp only [beq_self_eq_true, Bool.true_and, Bool.and_true]
    generalize (FloatKind.f64.format.order o.x o.x == some .eq) = ax at f0 ⊢
    generalize finB (o.x : Int) = bx at f0 ⊢
    revert f0; clear z0
    generalize (FloatKind.f64.format.order o.y o.y == some .eq) = ay at f1 ⊢
    generalize finB (o.y : Int) = by_ at f1 ⊢
    revert f1; clear z1
    generalize (o.months == 0) = cmonths
    generalize ((decide (1 ≤ o.count) && decide (o.count ≤ 5))) = d0
    generalize ((decide (0 ≤ o.day) && decide (o.day ≤ 109572))) = d1
    generalize ((decide (0 ≤ o.to) && decide (o.to ≤ 109572))) = d2
    generalize (decide (o.day < o.to)) = d3
    generalize ((decide (1 ≤ o.n) && decide (o.n ≤ 1200))) = d4
    generalize ((decide (1 ≤ o.cur) && decide (o.cur ≤ 8))) = d5
    clear hD ek e
    cases ax <;> cases bx <;> cases ay <;> cases by_ <;> cases d0 <;> cases d1 <;> cases d2 <;> cases d3 <;> cases d4 <;> cases d5 <;> simp
  by_cases h5 : o.kind = 5
  · have e : oTm o.kind = 6 := by unfold oTm; rw [h5]; rfl
    have ek : (tmO o).kind = 6 := e
    have hD : fitD o = fldB (tmO o) := by unfold fitD; rw [if_neg h1, decide_eq_true (by rw [e]; decide)]; rfl
    rw [hD]; unfold fldB fitO
    rw [if_neg (by rw [ek]; decide), if_neg (by rw [ek]; decide), if_neg (by rw [ek]; decide), if_neg (by rw [ek]; decide), if_neg (by rw [ek]; decide), if_pos ek]
    rw [if_neg (by omega), if_neg h2, if_neg h3, if_pos h5]
    unfold eqT tn6 tmO eqO nm5
    simp only [beq_self_eq_true, Bool.true_and, Bool.and_true]
    rw [show (((0 : Nat) : Int)) = 0 from rfl]
    generalize (FloatKind.f64.format.order o.x o.x == some .eq) = ax at f0 ⊢
    generalize finB (o.x : Int) = bx at f0 ⊢
    revert f0; clear z0
    generalize (FloatKind.f64.format.order o.y 0 == some .eq) = ay at z1 ⊢
    generalize ((o.y : Int) == 0) = by_ at z1 ⊢
    revert z1; clear f1
    generalize (o.day == 0) = cday
    generalize (o.to == 0) = cto
    generalize (o.cur == 0) = ccur
    generalize (o.count == 0) = ccount
    generalize (o.n == 0) = cn
    generalize (o.months == 0) = cmonths
    clear hD ek e
    cases ax <;> cases bx <;> cases ay <;> cases by_ <;> simp
  by_cases h6 : o.kind = 6
  · have e : oTm o.kind = 7 := by unfold oTm; rw [h6]; rfl
    have ek : (tmO o).kind = 7 := e
    have hD : fitD o = fldB (tmO o) := by unfold fitD; rw [if_neg h1, decide_eq_true (by rw [e]; decide)]; rfl
    rw [hD]; unfold fldB fitO
    rw [if_neg (by rw [ek]; decide), if_neg (by rw [ek]; decide), if_neg (by rw [ek]; decide), if_neg (by rw [ek]; decide), if_neg (by rw [ek]; decide), if_neg (by rw [ek]; decide), if_pos ek]
    rw [if_neg (by omega), if_neg h2, if_neg h3, if_neg h5, if_pos h6]
    unfold eqT tn7 tmO eqO nm6
    simp only [beq_self_eq_true, Bool.true_and, Bool.and_true]
    rw [show (((0 : Nat) : Int)) = 0 from rfl]
    generalize (FloatKind.f64.format.order o.x 0 == some .eq) = ax at z0 ⊢
    generalize ((o.x : Int) == 0) = bx at z0 ⊢
    revert z0; clear f0
    generalize (FloatKind.f64.format.order o.y 0 == some .eq) = ay at z1 ⊢
    generalize ((o.y : Int) == 0) = by_ at z1 ⊢
    revert z1; clear f1
    generalize (o.cur == 0) = ccur
    generalize (o.count == 0) = ccount
    generalize (o.n == 0) = cn
    generalize (o.months == 0) = cmonths
    generalize ((decide (0 ≤ o.day) && decide (o.day ≤ 109572))) = d0
    generalize ((decide (0 ≤ o.to) && decide (o.to ≤ 109572))) = d1
    clear hD ek e
    cases ax <;> cases bx <;> cases ay <;> cases by_ <;> cases d0 <;> cases d1 <;> simp
  by_cases h7 : o.kind = 7
  · have e : oTm o.kind = 8 := by unfold oTm; rw [h7]; rfl
    have ek : (tmO o).kind = 8 := e
    have hD : fitD o = fldB (tmO o) := by unfold fitD; rw [if_neg h1, decide_eq_true (by rw [e]; decide)]; rfl
    rw [hD]; unfold fldB fitO
    rw [if_neg (by rw [ek]; decide), if_neg (by rw [ek]; decide), if_neg (by rw [ek]; decide), if_neg (by rw [ek]; decide), if_neg (by rw [ek]; decide), if_neg (by rw [ek]; decide), if_neg (by rw [ek]; decide), if_pos ek]
    rw [if_neg (by omega), if_neg h2, if_neg h3, if_neg h5, if_neg h6, if_pos h7]
    unfold eqT tn8 tmO eqO nm7
    simp only [beq_self_eq_true, Bool.true_and, Bool.and_true]
    rw [show (((0 : Nat) : Int)) = 0 from rfl]
    generalize (FloatKind.f64.format.order o.x 0 == some .eq) = ax at z0 ⊢
    generalize ((o.x : Int) == 0) = bx at z0 ⊢
    revert z0; clear f0
    generalize (FloatKind.f64.format.order o.y 0 == some .eq) = ay at z1 ⊢
    generalize ((o.y : Int) == 0) = by_ at z1 ⊢
    revert z1; clear f1
    generalize (o.day == 0) = cday
    generalize (o.to == 0) = cto
    generalize (o.cur == 0) = ccur
    generalize (o.count == 0) = ccount
    generalize ((decide (1 ≤ o.n) && decide (o.n ≤ 4096))) = d0
    generalize ((decide (1 ≤ o.months) && decide (o.months ≤ 1200))) = d1
    clear hD ek e
    cases ax <;> cases bx <;> cases ay <;> cases by_ <;> cases d0 <;> cases d1 <;> simp
  have e : oTm o.kind = 0 := by unfold oTm; rw [if_neg (by omega), if_neg (by omega)]
  unfold fitD fitO
  rw [if_neg h1, decide_eq_false (fun h => h e), if_neg (by omega), if_neg h2, if_neg h3, if_neg h5, if_neg h6, if_neg h7]
  rfl
end Go.Proofs.YtienedhaogjahaaGreatDoor
namespace Go.Proofs.YtienedhaogjahaaGreatDoor
open Go.RowKit

structure DSrc (w : World) (p : Option Addr) (b off : Nat) (l : List Opr) : Prop where
  at_ : 0 < l.length → p = some ⟨b, off, none⟩
  lt : 0 < l.length → b < w.heap.size
  c0 : ∀ i < l.length, w.cell? ⟨b, off + i * 9, none⟩ = some (.int .i64 (l.getD i opr0).kind)
  c1 : ∀ i < l.length, w.cell? ⟨b, off + i * 9 + 1, none⟩ = some (.int .u64 (l.getD i opr0).x)
  c2 : ∀ i < l.length, w.cell? ⟨b, off + i * 9 + 2, none⟩ = some (.int .u64 (l.getD i opr0).y)
  c3 : ∀ i < l.length, w.cell? ⟨b, off + i * 9 + 3, none⟩ = some (.int .i64 (l.getD i opr0).day)
  c4 : ∀ i < l.length, w.cell? ⟨b, off + i * 9 + 4, none⟩ = some (.int .i64 (l.getD i opr0).to)
  c5 : ∀ i < l.length, w.cell? ⟨b, off + i * 9 + 5, none⟩ = some (.int .i64 (l.getD i opr0).cur)
  c6 : ∀ i < l.length, w.cell? ⟨b, off + i * 9 + 6, none⟩ = some (.int .i64 (l.getD i opr0).count)
  c7 : ∀ i < l.length, w.cell? ⟨b, off + i * 9 + 7, none⟩ = some (.int .i64 (l.getD i opr0).n)
  c8 : ∀ i < l.length, w.cell? ⟨b, off + i * 9 + 8, none⟩ = some (.int .i64 (l.getD i opr0).months)
theorem DSrc.below {w w' : World} {p : Option Addr} {b off : Nat} {l : List Opr} (h : DSrc w p b off l) (hb : Below w.heap.size w w') : DSrc w' p b off l := by
  have k : ∀ i, i < l.length → ∀ j, w'.cell? ⟨b, j, none⟩ = w.cell? ⟨b, j, none⟩ := fun i hi j => World.cell?_of_block (w := w) (a := ⟨b, j, none⟩) (hb.block b (h.lt (by omega)))
  exact ⟨h.at_, fun hn => Nat.lt_of_lt_of_le (h.lt hn) hb.size, fun i hi => (k i hi _).trans (h.c0 i hi), fun i hi => (k i hi _).trans (h.c1 i hi), fun i hi => (k i hi _).trans (h.c2 i hi), fun i hi => (k i hi _).trans (h.c3 i hi), fun i hi => (k i hi _).trans (h.c4 i hi), fun i hi => (k i hi _).trans (h.c5 i hi), fun i hi => (k i hi _).trans (h.c6 i hi), fun i hi => (k i hi _).trans (h.c7 i hi), fun i hi => (k i hi _).trans (h.c8 i hi)⟩
set_option maxRecDepth 20000 in
set_option maxHeartbeats 12800000 in
theorem r18Check_any (l : List Opr) (n : Nat) (p : Option Addr) (b off c : Nat) (w : World) (hs : DSrc w p b off l) (hn : l.length = n) (hu : ∀ i < n, OpU (l.getD i opr0)) (hl : n ≤ 9223372036854775807) :
    Calls Tryz.prog 27 #[.slice p n c] w fun e w' => ∃ M E A, e = .returned (.tuple #[.int .i64 E, .int .i64 A]) ∧ MeaR l M E A ∧ Below w.heap.size w w' := by
  have HS := hidD (And.intro hs (And.intro hn hu))
  clear hs hn hu
  by_cases hlong : 8192 < n
  · have i0 : (8192 : Int) < (n : Int) := by omega
    have HL := hidD hlong
    clear hlong
    go_enter Tryz.func27, Tryz.ntmps27
    go_wp2_with fail
    go_ret2
    exact ⟨_, _, _, rfl, .long (by rw [HS.out.2.1]; exact HL.out), Below.refl _ _⟩
  have i0 : ¬ (8192 : Int) < (n : Int) := by omega
  have i00 : n ≤ 8192 := by omega
  have HL : Hid (l.length ≤ 8192) := by show _ ≤ _; rw [HS.out.2.1]; exact i00
  clear hlong hl
  go_enter Tryz.func27, Tryz.ntmps27
  go_wp2_with fail
  go_loopw [4, 5] (fun m i wr => ∃ k : Nat, k ≤ n ∧ i = .int .i64 k ∧ m = .int .i64 (mkN l k) ∧ Hid (∀ j < k, badO (l.getD j opr0) (mkN l j) = 0) ∧ Hid (Below w.heap.size w wr)) (fun _ i _ => n - (intOf i).toNat)
  case atStart => exact ⟨0, Nat.zero_le _, rfl, rfl, fun j hj => by omega, Below.refl _ _⟩
  case round =>
    obtain ⟨k, hk, rfl, rfl, HP, HB⟩ := hrel
    obtain ⟨m0, m1⟩ := mk_range l k HP.out
    by_cases hlt : k < n
    · have hlt' : k < l.length := by rw [HS.out.2.1]; exact hlt
      have HSr := hidD (HS.out.1.below HB.out)
      obtain rfl := HSr.out.at_ (by omega)
      have HFi := hidD (fun w => fit_same (l.getD k opr0) (HS.out.2.2 k hlt) ▸ r18Fit_any (l.getD k opr0) (HS.out.2.2 k hlt) w)
      have HTa := hidD (r18Takes_any (l.getD k opr0))
      have hmk : mkN l (k + 1) = if (l.getD k opr0).kind = 1 then mkN l k + 1 else if takO (l.getD k opr0) then mkN l k - 1 else mkN l k := rfl
      have HBd : Hid (∀ E, badO (l.getD k opr0) (mkN l k) = E → E ≠ 0 → MeaR l 0 E k) := fun E he h0 => .bad k E HL.out hlt' HP.out he h0
      have HGo : Hid (badO (l.getD k opr0) (mkN l k) = 0 → ∀ j < k + 1, badO (l.getD j opr0) (mkN l j) = 0) := fun h j hj => by
        by_cases e : j = k
        · rw [e]; exact h
        · exact HP.out j (by omega)
      have HC : Hid (∀ w', Below wr.heap.size wr w' → w'.cell? ⟨b, off + k * 9, none⟩ = some (.int .i64 (l.getD k opr0).kind) ∧ w'.cell? ⟨b, off + k * 9 + 1, none⟩ = some (.int .u64 (l.getD k opr0).x) ∧ w'.cell? ⟨b, off + k * 9 + 2, none⟩ = some (.int .u64 (l.getD k opr0).y) ∧ w'.cell? ⟨b, off + k * 9 + 3, none⟩ = some (.int .i64 (l.getD k opr0).day) ∧ w'.cell? ⟨b, off + k * 9 + 4, none⟩ = some (.int .i64 (l.getD k opr0).to) ∧ w'.cell? ⟨b, off + k * 9 + 5, none⟩ = some (.int .i64 (l.getD k opr0).cur) ∧ w'.cell? ⟨b, off + k * 9 + 6, none⟩ = some (.int .i64 (l.getD k opr0).count) ∧ w'.cell? ⟨b, off + k * 9 + 7, none⟩ = some (.int .i64 (l.getD k opr0).n) ∧ w'.cell? ⟨b, off + k * 9 + 8, none⟩ = some (.int .i64 (l.getD k opr0).months)) := fun w' hb => by
        have h := HSr.out.below hb
        exact ⟨h.c0 k hlt', h.c1 k hlt', h.c2 k hlt', h.c3 k hlt', h.c4 k hlt', h.c5 k hlt', h.c6 k hlt', h.c7 k hlt', h.c8 k hlt'⟩
      generalize hbo : badO (l.getD k opr0) (mkN l k) = BO at HBd HGo
      unfold badO at hbo
      generalize hto : takO (l.getD k opr0) = T at hbo hmk HTa
      generalize hfo : fitO (l.getD k opr0) = F at hbo HFi
      have HTk := hidD hto
      generalize hM' : mkN l (k + 1) = M' at *
      have HM' := hidD hM'
      generalize hMk : mkN l k = M at *
      unfold takO at HTk
      generalize l.getD k opr0 = o at *
      have i1 : (k : Int) < (n : Int) := by omega
      unfold opD at HTa HFi
      clear hfo hto hM' hMk
      obtain ⟨c0, c1, c2, c3, c4, c5, c6, c7, c8⟩ := HC.out wr (Below.refl _ _)
      go_wp2_with fail
      refine (HFi.out _).mono ?_
      rintro e w1 ⟨rfl, hb1⟩
      have HA1 := hidD hb1
      clear hb1 c0 c1 c2 c3 c4 c5 c6 c7 c8 HFi
      cases F
      · have hBO : BO = 180 := by rw [← hbo]; simp
        subst hBO
        clear hbo
        go_wp2_with fail
        go_ret2
        exact ⟨_, _, _, rfl, HBd.out _ rfl (by decide), HB.out.trans (HA1.out.mono HB.out.size)⟩
      obtain ⟨c0, c1, c2, c3, c4, c5, c6, c7, c8⟩ := HC.out w1 HA1.out
      go_wp2_with fail
      refine (HTa.out _).mono ?_
      rintro e w2 ⟨rfl, hb2⟩
      have HA2 := hidD (HA1.out.trans (hb2.mono HA1.out.size))
      have HB2 := hidD (HB.out.trans (HA2.out.mono HB.out.size))
      clear hb2 c0 c1 c2 c3 c4 c5 c6 c7 c8 HA1
      obtain ⟨c0, c1, c2, c3, c4, c5, c6, c7, c8⟩ := HC.out w2 HA2.out
      have HZ : Hid (∀ w3, Below w2.heap.size w2 w3 → Below w.heap.size w w3) := fun w3 h => HB2.out.trans (h.mono HB2.out.size)
      cases T
      · by_cases hk1 : o.kind = 1
        · have t1 : (o.kind == 1) = true := by rw [hk1]; rfl
          by_cases h63 : M = 63
          · have hBO : BO = 172 := by rw [← hbo]; simp [hk1, h63]
            subst hBO
            have g1 : M + 1 > 63 := by omega
            clear hbo hk1 h63
            go_wp2_with fail
            go_ret2
            exact ⟨_, _, _, rfl, HBd.out _ rfl (by decide), HB2.out⟩
          · have hBO : BO = 0 := by rw [← hbo]; simp [hk1, h63]
            have HG := hidD (HGo.out hBO)
            have e1 : M + 1 = M' := by rw [hmk, if_pos hk1]
            have g1 : ¬ 63 < M' := by omega
            have hM2 : M' ≤ 64 := by omega
            have hM3 : 0 ≤ M' := by omega
            clear hbo hk1 h63 hBO hmk
            go_wp2_with fail
            refine (HTa.out _).mono ?_
            rintro e w3 ⟨rfl, hb3⟩
            have HB3 := hidD (HZ.out _ hb3)
            clear hb3 c0 c1 c2 c3 c4 c5 c6 c7 c8
            go_wp2_with fail
            go_roundw
            case rel => exact ⟨k + 1, by omega, by simp, by rw [HM'.out], HG, HB3⟩
            case measure => simp [intOf]; omega
        · have t1 : (o.kind == 1) = false := beq_eq_false_iff_ne.2 hk1
          have hBO : BO = 0 := by rw [← hbo]; simp [hk1]
          have HG := hidD (HGo.out hBO)
          have e1 : M' = M := by rw [hmk, if_neg hk1]; rfl
          clear hbo hk1 hBO hmk
          go_wp2_with fail
          refine (HTa.out _).mono ?_
          rintro e w3 ⟨rfl, hb3⟩
          have HB3 := hidD (HZ.out _ hb3)
          clear hb3 c0 c1 c2 c3 c4 c5 c6 c7 c8
          go_wp2_with fail
          go_roundw
          case rel => exact ⟨k + 1, by omega, by simp, by rw [HM'.out, e1], HG, HB3⟩
          case measure => simp [intOf]; omega
      · have hk4 : 4 ≤ o.kind := by
          have := HTk.out
          simp only [Bool.and_eq_true, decide_eq_true_eq] at this
          exact this.1
        have hk1 : ¬ o.kind = 1 := by omega
        have t1 : (o.kind == 1) = false := beq_eq_false_iff_ne.2 hk1
        by_cases h0 : M = 0
        · have t2 : (M == 0) = true := by rw [h0]; rfl
          have hBO : BO = 180 := by rw [← hbo]; simp [h0]
          subst hBO
          clear hbo hk1 h0 hk4
          go_wp2_with fail
          go_ret2
          exact ⟨_, _, _, rfl, HBd.out _ rfl (by decide), HB2.out⟩
        · have t2 : (M == 0) = false := beq_eq_false_iff_ne.2 h0
          have hBO : BO = 0 := by rw [← hbo]; simp [h0, hk1]
          have HG := hidD (HGo.out hBO)
          have e1 : M - 1 = M' := by rw [hmk, if_neg hk1]; rfl
          have hM2 : M' ≤ 64 := by omega
          have hM3 : 0 ≤ M' := by omega
          clear hbo hk1 h0 hBO hk4 hmk
          go_wp2_with fail
          refine (HTa.out _).mono ?_
          rintro e w3 ⟨rfl, hb3⟩
          have HB3 := hidD (HZ.out _ hb3)
          clear hb3 c0 c1 c2 c3 c4 c5 c6 c7 c8
          go_wp2_with fail
          go_roundw
          case rel => exact ⟨k + 1, by omega, by simp, by rw [HM'.out], HG, HB3⟩
          case measure => simp [intOf]; omega
    · obtain rfl : k = n := by omega
      have i1 : ¬ (k : Int) < (k : Int) := by omega
      have hkl := HS.out.2.1
      by_cases hm : 0 < mkN l k
      · have HR : Hid (MeaR l 0 180 k) := by
          have := MeaR.left (l := l) HL.out (by rw [hkl]; exact HP.out) (by rw [hkl]; exact hm)
          rw [hkl] at this
          exact this
        clear hkl
        generalize mkN l k = M at *
        go_wp2_with fail
        go_ret2
        exact ⟨_, _, _, rfl, HR.out, HB.out⟩
      · have HR : Hid (MeaR l (moN l k) 0 0) := by
          have := MeaR.fine (l := l) HL.out (by rw [hkl]; exact HP.out) (by rw [hkl]; exact hm)
          rw [hkl] at this
          exact this
        clear hkl
        generalize mkN l k = M at *
        generalize moN l k = O at *
        go_wp2_with fail
        go_ret2
        exact ⟨_, _, _, rfl, HR.out, HB.out⟩
end Go.Proofs.YtienedhaogjahaaGreatDoor
namespace Go.Proofs.YtienedhaogjahaaGreatDoor
open Go.RowKit

theorem opD_size (o : Opr) : (opD o).size = 9 := rfl
theorem opD_one (o : Opr) : ∀ u ∈ (opD o).toList, u.oneCell' = true := fun u h => by
  simp only [opD, List.mem_cons, List.not_mem_nil, or_false] at h
  rcases h with rfl | rfl | rfl | rfl | rfl | rfl | rfl | rfl | rfl <;> rfl
theorem info_opD : (Tryz.prog.info? 66).map (fun i => (i.zero, i.size, i.bytes)) = some (some (.agg #[.int .i64 0, .int .u64 0, .int .u64 0, .int .i64 0, .int .i64 0, .int .i64 0, .int .i64 0, .int .i64 0, .int .i64 0]), 9, 72) := by kernel_rfl
theorem dsrc_of {w : World} {B n c : Nat} {p : Option Addr} {l : List Opr} (h : w.ownsRow B 66 9 (.slice p n c) n (rowV opD l)) (hn : l.length = n) : ∃ g, DSrc w p g 0 l := by
  obtain ⟨p', c', g, hv, _, _, hp, _, hb, hc, _⟩ := orow_src h
  injection hv with hv1 hv2 hv3
  subst hv1 hv3
  have hg : ∀ i < l.length, ∀ j < 9, w.cell? ⟨g, i * 9 + j, none⟩ = (opD (l.getD i opr0))[j]? := fun i hi j hj => by
    rw [hc _ (by omega), rowV_get opD_size opr0 l i j hi hj]
  refine ⟨g, ⟨fun h => hp (by omega), fun h => (hb _ (hp (by omega))).2.2, ?_, ?_, ?_, ?_, ?_, ?_, ?_, ?_, ?_⟩⟩ <;> intro i hi <;> rw [Nat.zero_add]
  · exact hg i hi 0 (by decide)
  · exact hg i hi 1 (by decide)
  · exact hg i hi 2 (by decide)
  · exact hg i hi 3 (by decide)
  · exact hg i hi 4 (by decide)
  · exact hg i hi 5 (by decide)
  · exact hg i hi 6 (by decide)
  · exact hg i hi 7 (by decide)
  · exact hg i hi 8 (by decide)
theorem takeO_next (l : List Opr) (k : Nat) (hk : k < l.length) : l.take (k + 1) = l.take k ++ [l.getD k opr0] := by
  rw [List.take_add_one, List.getElem?_eq_getElem hk]
  simp [List.getD, List.getElem?_eq_getElem hk]
set_option maxRecDepth 20000 in
set_option maxHeartbeats 12800000 in
theorem r18Of_any (l : List Opr) (N : Nat) (p : Option Addr) (b off c : Nat) (w : World) (hl : OSrc w p b off l) (hN : l.length = N) (hc : N * 72 ≤ 140737488355328) :
    Calls Tryz.prog 14 #[.slice p N c] w fun e w' => (∃ q cp, e = .returned (.slice q N cp) ∧ w'.ownsRow w.heap.size 66 9 (.slice q N cp) N (rowV opD l)) ∧ Below w.heap.size w w' := by
  have HN := hidD hN
  have HQ := hidD hl
  have HP : Hid (0 < N → p = some ⟨b, off, none⟩) := fun h => hl.at_ (by omega)
  have HC := hidD hc
  have hc2 : N ≤ 140737488355328 := by omega
  have hst := store_fltD
  have HO0 := hidD (orow_nil w.heap.size w 66 9)
  clear hl hN hc
  go_enter Tryz.func14, Tryz.ntmps14
  go_wp2_with fail
  go_loopw [3, 4] (fun g i wr => ∃ (k : Nat) (q : Option Addr) (cp : Nat), k ≤ N ∧ i = .int .i64 k ∧ g = .slice q k cp ∧ Hid (wr.ownsRow w.heap.size 66 9 (.slice q k cp) k (rowV opD (l.take k))) ∧ Hid (Below w.heap.size w wr)) (fun _ i _ => N - (intOf i).toNat)
  case atStart => exact ⟨0, none, 0, Nat.zero_le _, rfl, rfl, HO0, Below.refl _ _⟩
  case round =>
    clear HO0
    obtain ⟨k, q, cp, hk, rfl, rfl, HO, HB⟩ := hrel
    by_cases hlt : k < N
    · obtain rfl := HP.out (by omega)
      have hlt' : k < l.length := by rw [HN.out]; exact hlt
      have HQr := HQ.out.below HB.out
      have c0 := HQr.c0 k hlt'
      have c1 := HQr.c1 k hlt'
      have c2 := HQr.c2 k hlt'
      have c3 := HQr.c3 k hlt'
      have c4 := HQr.c4 k hlt'
      have c5 := HQr.c5 k hlt'
      have c6 := HQr.c6 k hlt'
      have c7 := HQr.c7 k hlt'
      have c8 := HQr.c8 k hlt'
      have hbl : b < wr.heap.size := Nat.lt_of_lt_of_le (HQ.out.lt (by rw [HN.out]; omega)) HB.out.size
      have HS : Hid (rowV opD (l.take (k + 1)) = rowV opD (l.take k) ++ rowV opD [l.getD k opr0]) := by
        show _ = _
        rw [takeO_next l k hlt', rowV_append]
      obtain ⟨f, hf⟩ : ∃ f, l.getD k opr0 = f := ⟨_, rfl⟩
      rw [hf] at HS c0 c1 c2 c3 c4 c5 c6 c7 c8
      clear hf HQr hlt'
      obtain ⟨qk, qx, qy, qd, qt, qc, qo, qn, qm⟩ := f
      dsimp only at *
      have hbn : b ≠ wr.heap.size := Nat.ne_of_lt hbl
      have g3 : (0 : Int) ≤ (k : Int) := by omega
      have g4 : (k : Int) < (N : Int) := by omega
      go_wp2_with fail
      have HT1 : Hid ((wr.alloc (.cells #[.int .i64 qk, .float .f64 qx, .float .f64 qy, .int .i64 qd, .int .i64 qt, .int .i64 qc, .int .i64 qo, .int .i64 qn, .int .i64 qm] 47)).heap[wr.heap.size]? = some (.cells #[.int .i64 qk, .float .f64 qx, .float .f64 qy, .int .i64 qd, .int .i64 qt, .int .i64 qc, .int .i64 qo, .int .i64 qn, .int .i64 qm] 47)) := heap_alloc_new _ _
      have HBa : Hid (Below wr.heap.size wr (wr.alloc (.cells #[.int .i64 qk, .float .f64 qx, .float .f64 qy, .int .i64 qd, .int .i64 qt, .int .i64 qc, .int .i64 qo, .int .i64 qn, .int .i64 qm] 47))) := (Below.refl _ _).alloc (Nat.le_refl _) _
      have hs1 : (wr.alloc (.cells #[.int .i64 qk, .float .f64 qx, .float .f64 qy, .int .i64 qd, .int .i64 qt, .int .i64 qc, .int .i64 qo, .int .i64 qn, .int .i64 qm] 47)).heap.size = wr.heap.size + 1 := by simp
      obtain ⟨R, hR⟩ : ∃ R, wr.heap.size = R := ⟨_, rfl⟩
      obtain ⟨w1, hw1⟩ : ∃ w1, wr.alloc (.cells #[.int .i64 qk, .float .f64 qx, .float .f64 qy, .int .i64 qd, .int .i64 qt, .int .i64 qc, .int .i64 qo, .int .i64 qn, .int .i64 qm] 47) = w1 := ⟨_, rfl⟩
      rw [hw1] at HT1 HBa hs1 ⊢
      have HR := hidD hs1
      have hRR := hidD hR
      rw [hR] at HT1 ⊢
      have HB1 := hidD (HB.out.trans (HBa.out.mono HB.out.size))
      have HO1 := hidD (orow_below HO.out HBa.out)
      have HNe : Hid (some R ≠ (Value.slice q k cp).ownBlock) := fun e => by have := (HO.out.lt R e.symm).2; have := hRR.out; omega
      clear hw1 hR hs1 c0 c1 c2 c3 c4 c5 c6 c7 c8 hbl hbn HB HO HBa
      have z0 := (opx_cells HT1.out 0 rfl).1
      have z1 := (opx_cells HT1.out 1 rfl).1
      have z2 := (opx_cells HT1.out 2 rfl).1
      have z3 := (opx_cells HT1.out 3 rfl).1
      have z4 := (opx_cells HT1.out 4 rfl).1
      have z5 := (opx_cells HT1.out 5 rfl).1
      have z6 := (opx_cells HT1.out 6 rfl).1
      have z7 := (opx_cells HT1.out 7 rfl).1
      have z8 := (opx_cells HT1.out 8 rfl).1
      have HBw := hidD ((Below.refl w1.heap.size w1).drew.alloc (Nat.le_refl _) (.cells #[.int .i64 qk, .int .u64 (qx : Int), .int .u64 (qy : Int), .int .i64 qd, .int .i64 qt, .int .i64 qc, .int .i64 qo, .int .i64 qn, .int .i64 qm] 66))
      have HO4 := hidD (orow_below HO1.out HBw.out)
      have HB4 := hidD (HB1.out.trans (HBw.out.mono HB1.out.size))
      have HFc : Hid (∀ j u, (rowV opD [⟨qk, qx, qy, qd, qt, qc, qo, qn, qm⟩])[j]? = some u → (w1.drew.alloc (.cells #[.int .i64 qk, .int .u64 (qx : Int), .int .u64 (qy : Int), .int .i64 qd, .int .i64 qt, .int .i64 qc, .int .i64 qo, .int .i64 qn, .int .i64 qm] 66)).cell? ⟨w1.heap.size, j, none⟩ = some u) := by
        intro j u hj
        have e : rowV opD [⟨qk, qx, qy, qd, qt, qc, qo, qn, qm⟩] = (#[.int .i64 qk, .int .u64 (qx : Int), .int .u64 (qy : Int), .int .i64 qd, .int .i64 qt, .int .i64 qc, .int .i64 qo, .int .i64 qn, .int .i64 qm] : Array Value).toList := by simp [rowV, opD]
        rw [e] at hj
        exact new_cells w1.drew _ 66 j u hj
      have HK : Hid ((w1.drew.alloc (.cells #[.int .i64 qk, .int .u64 (qx : Int), .int .u64 (qy : Int), .int .i64 qd, .int .i64 qt, .int .i64 qc, .int .i64 qo, .int .i64 qn, .int .i64 qm] 66)).cell? ⟨R, 0, none⟩ = some (.int .i64 qk) ∧ (w1.drew.alloc (.cells #[.int .i64 qk, .int .u64 (qx : Int), .int .u64 (qy : Int), .int .i64 qd, .int .i64 qt, .int .i64 qc, .int .i64 qo, .int .i64 qn, .int .i64 qm] 66)).cell? ⟨R, 1, none⟩ = some (.float .f64 qx) ∧ (w1.drew.alloc (.cells #[.int .i64 qk, .int .u64 (qx : Int), .int .u64 (qy : Int), .int .i64 qd, .int .i64 qt, .int .i64 qc, .int .i64 qo, .int .i64 qn, .int .i64 qm] 66)).cell? ⟨R, 2, none⟩ = some (.float .f64 qy) ∧ (w1.drew.alloc (.cells #[.int .i64 qk, .int .u64 (qx : Int), .int .u64 (qy : Int), .int .i64 qd, .int .i64 qt, .int .i64 qc, .int .i64 qo, .int .i64 qn, .int .i64 qm] 66)).cell? ⟨R, 3, none⟩ = some (.int .i64 qd) ∧ (w1.drew.alloc (.cells #[.int .i64 qk, .int .u64 (qx : Int), .int .u64 (qy : Int), .int .i64 qd, .int .i64 qt, .int .i64 qc, .int .i64 qo, .int .i64 qn, .int .i64 qm] 66)).cell? ⟨R, 4, none⟩ = some (.int .i64 qt) ∧ (w1.drew.alloc (.cells #[.int .i64 qk, .int .u64 (qx : Int), .int .u64 (qy : Int), .int .i64 qd, .int .i64 qt, .int .i64 qc, .int .i64 qo, .int .i64 qn, .int .i64 qm] 66)).cell? ⟨R, 5, none⟩ = some (.int .i64 qc) ∧ (w1.drew.alloc (.cells #[.int .i64 qk, .int .u64 (qx : Int), .int .u64 (qy : Int), .int .i64 qd, .int .i64 qt, .int .i64 qc, .int .i64 qo, .int .i64 qn, .int .i64 qm] 66)).cell? ⟨R, 6, none⟩ = some (.int .i64 qo) ∧ (w1.drew.alloc (.cells #[.int .i64 qk, .int .u64 (qx : Int), .int .u64 (qy : Int), .int .i64 qd, .int .i64 qt, .int .i64 qc, .int .i64 qo, .int .i64 qn, .int .i64 qm] 66)).cell? ⟨R, 7, none⟩ = some (.int .i64 qn) ∧ (w1.drew.alloc (.cells #[.int .i64 qk, .int .u64 (qx : Int), .int .u64 (qy : Int), .int .i64 qd, .int .i64 qt, .int .i64 qc, .int .i64 qo, .int .i64 qn, .int .i64 qm] 66)).cell? ⟨R, 8, none⟩ = some (.int .i64 qm)) := by
        refine ⟨?_, ?_, ?_, ?_, ?_, ?_, ?_, ?_, ?_⟩ <;> (rw [World.cell?_of_block (w := w1) (HBw.out.block _ (by rw [HR.out]; rw [← hRR.out]; exact Nat.lt_succ_self _))]; assumption)
      have HKf : Hid (∀ x : World, x.heap[R]? = (w1.drew.alloc (.cells #[.int .i64 qk, .int .u64 (qx : Int), .int .u64 (qy : Int), .int .i64 qd, .int .i64 qt, .int .i64 qc, .int .i64 qo, .int .i64 qn, .int .i64 qm] 66)).heap[R]? → x.cell? ⟨R, 0, none⟩ = some (.int .i64 qk) ∧ x.cell? ⟨R, 1, none⟩ = some (.float .f64 qx) ∧ x.cell? ⟨R, 2, none⟩ = some (.float .f64 qy) ∧ x.cell? ⟨R, 3, none⟩ = some (.int .i64 qd) ∧ x.cell? ⟨R, 4, none⟩ = some (.int .i64 qt) ∧ x.cell? ⟨R, 5, none⟩ = some (.int .i64 qc) ∧ x.cell? ⟨R, 6, none⟩ = some (.int .i64 qo) ∧ x.cell? ⟨R, 7, none⟩ = some (.int .i64 qn) ∧ x.cell? ⟨R, 8, none⟩ = some (.int .i64 qm)) := fun x hx => by
        obtain ⟨k0, k1, k2, k3, k4, k5, k6, k7, k8⟩ := HK.out
        exact ⟨(World.cell?_of_block (a := ⟨R, 0, none⟩) hx).trans k0, (World.cell?_of_block (a := ⟨R, 1, none⟩) hx).trans k1, (World.cell?_of_block (a := ⟨R, 2, none⟩) hx).trans k2, (World.cell?_of_block (a := ⟨R, 3, none⟩) hx).trans k3, (World.cell?_of_block (a := ⟨R, 4, none⟩) hx).trans k4, (World.cell?_of_block (a := ⟨R, 5, none⟩) hx).trans k5, (World.cell?_of_block (a := ⟨R, 6, none⟩) hx).trans k6, (World.cell?_of_block (a := ⟨R, 7, none⟩) hx).trans k7, (World.cell?_of_block (a := ⟨R, 8, none⟩) hx).trans k8⟩
      have hRl : R < (w1.drew.alloc (.cells #[.int .i64 qk, .int .u64 (qx : Int), .int .u64 (qy : Int), .int .i64 qd, .int .i64 qt, .int .i64 qc, .int .i64 qo, .int .i64 qn, .int .i64 qm] 66)).heap.size := by have := HR.out; have := hRR.out; simp; omega
      have HRl := hidD hRl
      clear hRl
      go_region_held3 (fun x => x.cell? ⟨R, 0, none⟩ = some (.int .i64 qk) ∧ x.cell? ⟨R, 1, none⟩ = some (.float .f64 qx) ∧ x.cell? ⟨R, 2, none⟩ = some (.float .f64 qy) ∧ x.cell? ⟨R, 3, none⟩ = some (.int .i64 qd) ∧ x.cell? ⟨R, 4, none⟩ = some (.int .i64 qt) ∧ x.cell? ⟨R, 5, none⟩ = some (.int .i64 qc) ∧ x.cell? ⟨R, 6, none⟩ = some (.int .i64 qo) ∧ x.cell? ⟨R, 7, none⟩ = some (.int .i64 qn) ∧ x.cell? ⟨R, 8, none⟩ = some (.int .i64 qm)) (first | exact HK.out | exact HK5.out | go_keep) (first | (go_at_call 25; (with_reducible refine (turned (bits_any qx _)).mono ?_); rintro e wb ⟨rfl, rfl⟩) | (go_at_call 25; (with_reducible refine (turned (bits_any qy _)).mono ?_); rintro e wb ⟨rfl, rfl⟩) | (refine step_append_g Tryz.underlying28 info_opD rfl (by decide) rfl (.tmp 16) (.tmp 38) rfl w.heap.size (.slice q k cp) k (rowV opD (l.take k)) rfl HO4.out HB4.out.size w1.heap.size 1 1 (rowV opD [⟨qk, qx, qy, qd, qt, qc, qo, qn, qm⟩]) rfl rfl HFc.out (rowV_one opD_one _) (by omega) (by have := HC.out; omega) ?_; intro v5 w5 ho5 hg5; rw [← HS.out] at ho5; have HB5 := hidD (HB4.out.trans (orow_grown HO4.out hg5 HB4.out.size)); obtain ⟨q5, k5, g5, hv5, _, _, hp5, _⟩ := orow_src ho5; obtain rfl := hp5 (by omega); subst hv5; clear hp5; have HO5 := hidD ho5; have HK5 := hidD (HKf.out w5 (hg5.block R HRl.out HNe.out)); clear ho5 hg5))
      all_goals
        go_wp2_with fail
        go_roundw
        case rel => exact ⟨k + 1, some ⟨g5, 0, none⟩, k5, by omega, by go_num, rfl, HO5, HB5⟩
        case measure => simp [intOf]; omega
    · obtain rfl : k = N := by omega
      go_wp2_with fail
      go_ret
      refine ⟨⟨_, _, rfl, ?_⟩, HB.out⟩
      have := HO.out
      rw [← HN.out, List.take_length, HN.out] at this
      exact this
end Go.Proofs.YtienedhaogjahaaGreatDoor
