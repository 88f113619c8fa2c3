/- The walk of SolveJumps: of a function that jumps at some number just that number is found. -/
import Derived.Test.YtoeifjnknhjchaaVAw
import Derived.Test.YtoeifjnknhjchaaFSub
import Derived.Test.YtoeifjnknhjchaaVJump
namespace Go.Proofs.Ytoeifjnknhjchaa
open Go.RowKit

/-- The function's answer, by ranks. -/
def jmpB (t : Int) (turned : Bool) (r : Int) : Bool := decide (r ≤ t) != turned
def jmpV (t : Int) (turned : Bool) (r : Int) : Nat := if jmpB t turned r = true then 13837309855095848960 else 4617315517961601024
def jmpF (t : Int) (turned : Bool) (a : Nat) : Option Int := rkO (jmpV t turned (rankI (a : Int)))
theorem jmpF_cases (t : Int) (turned : Bool) (a : Nat) : jmpF t turned a = some (-4613937818241073152) ∧ jmpB t turned (rankI (a : Int)) = true ∨ jmpF t turned a = some 4617315517961601024 ∧ jmpB t turned (rankI (a : Int)) = false := by
  unfold jmpF jmpV
  cases h : jmpB t turned (rankI (a : Int)) with
  | true => exact Or.inl ⟨by decide, rfl⟩
  | false => exact Or.inr ⟨by decide, rfl⟩
theorem enter_jmp (args : Array Value) (w : World) : (callFunc 17 args).run Try.prog w = .ok (.enter 17 args) w := enter_of Try.func17 (by kernel_rfl) rfl args w

/-- What the function holds: the ends, the number, the two counts. -/
structure JmpI (w : World) (lo hi at_ : Nat) (turned : Bool) (k : Nat) (wr : World) : Prop where
  c0 : wr.cell? ⟨w.heap.size, 0, none⟩ = some (.float .f64 lo)
  c1 : wr.cell? ⟨w.heap.size + 1, 0, none⟩ = some (.float .f64 hi)
  c2 : wr.cell? ⟨w.heap.size + 1 + 1, 0, none⟩ = some (.float .f64 at_)
  c3 : wr.cell? ⟨w.heap.size + 1 + 1 + 1, 0, none⟩ = some (.bool turned)
  c4 : wr.cell? ⟨w.heap.size + 1 + 1 + 1 + 1, 0, none⟩ = some (.int .i64 k)
  c5 : wr.cell? ⟨w.heap.size + 1 + 1 + 1 + 1 + 1, 0, none⟩ = some (.int .i64 0)
  f4 : wr.frozen? ⟨w.heap.size + 1 + 1 + 1 + 1, 0, none⟩ = false
  bl : Below w.heap.size w wr
theorem JmpI.put {w : World} {lo hi at_ : Nat} {turned : Bool} {k : Nat} {wr : World} (h : JmpI w lo hi at_ turned k wr) : JmpI w lo hi at_ turned (k + 1) (wr.setCell ⟨w.heap.size + 1 + 1 + 1 + 1, 0, none⟩ (.int .i64 ((k : Int) + 1))) := by
  refine ⟨?_, ?_, ?_, ?_, ?_, ?_, ?_, h.bl.setCell (p := ⟨w.heap.size + 1 + 1 + 1 + 1, 0, none⟩) (show w.heap.size ≤ w.heap.size + 1 + 1 + 1 + 1 by omega) _⟩
  · rw [World.cell?_setCell_other (h := by simp)]; exact h.c0
  · rw [World.cell?_setCell_other (h := by simp)]; exact h.c1
  · rw [World.cell?_setCell_other (h := by simp)]; exact h.c2
  · rw [World.cell?_setCell_other (h := by simp)]; exact h.c3
  · rw [World.cell?_setCell_same _ _ _ h.c4]; rfl
  · rw [World.cell?_setCell_other (h := by simp)]; exact h.c5
  · rw [World.frozen?_setCell]; exact h.f4

set_option maxHeartbeats 800000 in
theorem jmpLit_any (lo hi at_ y k : Nat) (turned : Bool) (w wr : World) (hk : k < 100) (hI : JmpI w lo hi at_ turned k wr) (g : Gd y (rankI (y : Int))) (gl : Gd lo (rankI (lo : Int))) (gh : Gd hi (rankI (hi : Int))) (gt : Gd at_ (rankI (at_ : Int))) (h1 : rankI (lo : Int) ≤ rankI (y : Int)) (h2 : rankI (y : Int) ≤ rankI (hi : Int)) :
    Calls Try.prog 17 #[.float .f64 y, .pointer (some ⟨w.heap.size + 1 + 1 + 1 + 1, 0, none⟩), .pointer (some ⟨w.heap.size, 0, none⟩), .pointer (some ⟨w.heap.size + 1, 0, none⟩), .pointer (some ⟨w.heap.size + 1 + 1 + 1 + 1 + 1, 0, none⟩), .pointer (some ⟨w.heap.size + 1 + 1, 0, none⟩), .pointer (some ⟨w.heap.size + 1 + 1 + 1, 0, none⟩)] wr fun e w' => e = .returned (.float .f64 (jmpV (rankI (at_ : Int)) turned (rankI (y : Int)))) ∧ JmpI w lo hi at_ turned (k + 1) w' := by
  have HP := hideS hI.put
  have o1 := lt_rank g.u gl.u g.n gl.n
  rw [decide_eq_false (by omega)] at o1
  have o2 := gt_rank g.u gh.u g.n gh.n
  rw [decide_eq_false (by omega)] at o2
  have o3 : (FloatKind.f64.format.order y y != some .eq) = false := by rw [bne, eq_self g.u, g.n]; rfl
  have o4 := leq_rank g.u gt.u g.n gt.n
  obtain ⟨c0, c1, c2, c3, c4, c5, f4, _⟩ := hI
  unfold jmpV jmpB
  generalize decide (rankI (y : Int) ≤ rankI (at_ : Int)) = q at *
  clear g gl gh gt h1 h2
  cases q <;> cases turned
  all_goals
    go_enter Try.func17, Try.ntmps17
    go_wp2_with fail
    go_ret
    exact ⟨rfl, HP.out⟩

theorem cell_oldJ (w : World) (o : Obj) (b : Nat) (h : b < w.heap.size) : (w.alloc o).cell? ⟨b, 0, none⟩ = w.cell? ⟨b, 0, none⟩ := ((Below.refl w.heap.size w).alloc (Nat.le_refl _) o).cell (p := ⟨b, 0, none⟩) h
theorem cell_newJ (w : World) (v : Value) (T : TypeId) (b : Nat) (h : b = w.heap.size) : (w.alloc (.cells #[v] T)).cell? ⟨b, 0, none⟩ = some v := by subst h; simp
theorem jmp_six (w : World) (lo hi at_ : Nat) (turned : Bool) (o4 o5 : Obj) (h4 : o4 = .cells #[.int .i64 0] 3) (h5 : o5 = .cells #[.int .i64 0] 3) : JmpI w lo hi at_ turned 0 ((((((w.alloc (.cells #[.float .f64 lo] 23)).alloc (.cells #[.float .f64 hi] 23)).alloc (.cells #[.float .f64 at_] 23)).alloc (.cells #[.bool turned] 4)).alloc o4).alloc o5) := by
  subst h4 h5
  refine ⟨?_, ?_, ?_, ?_, ?_, ?_, ?_, ?_⟩
  · rw [cell_oldJ _ _ _ (by simp; omega), cell_oldJ _ _ _ (by simp; omega), cell_oldJ _ _ _ (by simp; omega), cell_oldJ _ _ _ (by simp; omega), cell_oldJ _ _ _ (by simp)]; exact cell_newJ _ _ _ _ rfl
  · rw [cell_oldJ _ _ _ (by simp), cell_oldJ _ _ _ (by simp), cell_oldJ _ _ _ (by simp), cell_oldJ _ _ _ (by simp)]; exact cell_newJ _ _ _ _ (by simp)
  · rw [cell_oldJ _ _ _ (by simp), cell_oldJ _ _ _ (by simp), cell_oldJ _ _ _ (by simp)]; exact cell_newJ _ _ _ _ (by simp)
  · rw [cell_oldJ _ _ _ (by simp), cell_oldJ _ _ _ (by simp)]; exact cell_newJ _ _ _ _ (by simp)
  · rw [cell_oldJ _ _ _ (by simp)]; exact cell_newJ _ _ _ _ (by simp)
  · exact cell_newJ _ _ _ _ (by simp)
  · have hb := (Below.refl _ ((((((w.alloc (.cells #[.float .f64 lo] 23)).alloc (.cells #[.float .f64 hi] 23)).alloc (.cells #[.float .f64 at_] 23)).alloc (.cells #[.bool turned] 4))).alloc (.cells #[.int .i64 0] 3))).alloc (Nat.le_refl _) (.cells #[.int .i64 0] 3)
    rw [hb.frozen (p := ⟨w.heap.size + 1 + 1 + 1 + 1, 0, none⟩) (by simp)]
    have := World.frozen?_alloc_new ((((w.alloc (.cells #[.float .f64 lo] 23)).alloc (.cells #[.float .f64 hi] 23)).alloc (.cells #[.float .f64 at_] 23)).alloc (.cells #[.bool turned] 4)) #[.int .i64 0] 3 0
    simpa using this
  · exact ((((((Below.refl w.heap.size w).alloc (Nat.le_refl _) _).alloc (by simp) _).alloc (by simp; omega) _).alloc (by simp; omega) _).alloc (by simp; omega) _).alloc (by simp; omega) _

/-- What is found is the number's own rank. -/
theorem jmp_found {lo hi at_ X N : Nat} {E : Int} {turned : Bool} (hl : U64 (lo : Int)) (hh : U64 (hi : Int)) (hE : endB lo hi = true) (h1 : rankI (lo : Int) ≤ rankI (at_ : Int)) (h2 : rankI (at_ : Int) < rankI (hi : Int)) (hV : askV (jmpF (rankI (at_ : Int)) turned) lo hi = (X, N, E)) : E = 0 ∧ Gd X (rankI (at_ : Int)) := by
  have hR : ∀ {a b : Nat} {r : Int}, Gd a r → Gd b r → jmpF (rankI (at_ : Int)) turned a = jmpF (rankI (at_ : Int)) turned b := by
    intro a b r ga gb
    unfold jmpF; rw [ga.e, gb.e]
  have hnn : ∀ c, jmpF (rankI (at_ : Int)) turned c ≠ none := fun c => by rcases jmpF_cases (rankI (at_ : Int)) turned c with ⟨h, _⟩ | ⟨h, _⟩ <;> rw [h] <;> simp
  have hnz : ∀ c, jmpF (rankI (at_ : Int)) turned c ≠ some 0 := fun c => by rcases jmpF_cases (rankI (at_ : Int)) turned c with ⟨h, _⟩ | ⟨h, _⟩ <;> rw [h] <;> simp
  have hup : ∀ c v, jmpF (rankI (at_ : Int)) turned c = some v → upB v = !jmpB (rankI (at_ : Int)) turned (rankI (c : Int)) := fun c v hv => by
    rcases jmpF_cases (rankI (at_ : Int)) turned c with ⟨h, hb⟩ | ⟨h, hb⟩
    · rw [h] at hv; rw [← Option.some.inj hv, hb]; decide
    · rw [h] at hv; rw [← Option.some.inj hv, hb]; decide
  rcases brkP_of hR hl hh hV with ⟨hb, _, _, _⟩ | ⟨c, hc, _, _⟩ | ⟨a, b, ha, hb, a0, b0, hu, _, _⟩ | ⟨x, _, g, _, _, hF, hE0⟩ | ⟨x, v, _, g, _, _, hF, v0, hU, hE0⟩
  · rw [hE] at hb; simp at hb
  · exact absurd hc (hnn c)
  · rw [hup lo a ha, hup hi b hb] at hu
    unfold jmpB at hu
    rw [decide_eq_true h1, decide_eq_false (show ¬ rankI (hi : Int) ≤ rankI (at_ : Int) by omega)] at hu
    cases turned <;> simp at hu
  · exact absurd hF (hnz X)
  · refine ⟨hE0, ?_⟩
    have gU : ∃ c, Gd c (x + 1) := by
      have hx := g.lo
      have hm : x + 1 ≤ 9218868437227405312 := by
        have := rank_hi (hi : Int)
        omega
      exact ⟨_, up_gd g hm⟩
    obtain ⟨c, gc⟩ := gU
    obtain ⟨z, hz, z0, hzu⟩ := hU c gc
    rw [hup c z hz, hup X v hF, gc.e, g.e] at hzu
    unfold jmpB at hzu
    have hx : x = rankI (at_ : Int) := by
      by_cases p : x ≤ rankI (at_ : Int)
      · by_cases q : x + 1 ≤ rankI (at_ : Int)
        · rw [decide_eq_true p, decide_eq_true q] at hzu; exact absurd rfl hzu
        · omega
      · rw [decide_eq_false p, decide_eq_false (show ¬ x + 1 ≤ rankI (at_ : Int) by omega)] at hzu; exact absurd rfl hzu
    rw [← hx]; exact g

set_option maxRecDepth 20000 in
set_option maxHeartbeats 1600000 in
theorem jumps_awake (lo hi at_ : Nat) (turned : Bool) (w : World) (hl : U64 (lo : Int)) (hh : U64 (hi : Int))
    (hc : ((FloatKind.f64.format.order lo at_ == some .lt) || (FloatKind.f64.format.order lo at_ == some .eq)) = false ∨ (((FloatKind.f64.format.order lo at_ == some .lt) || (FloatKind.f64.format.order lo at_ == some .eq)) = true ∧ (FloatKind.f64.format.order at_ hi == some .lt) = false) ∨ (((FloatKind.f64.format.order lo at_ == some .lt) || (FloatKind.f64.format.order lo at_ == some .eq)) = true ∧ (FloatKind.f64.format.order at_ hi == some .lt) = true ∧ ¬ NumB lo) ∨ (((FloatKind.f64.format.order lo at_ == some .lt) || (FloatKind.f64.format.order lo at_ == some .eq)) = true ∧ (FloatKind.f64.format.order at_ hi == some .lt) = true ∧ NumB lo ∧ ¬ NumB hi)) :
    Calls Try.prog 5 #[.float .f64 lo, .float .f64 hi, .float .f64 at_, .bool turned] w fun e w' => e = .returned (.bool true) ∧ Below w.heap.size w w' := by
  have HB : Hid (Below w.heap.size w ((((w.alloc (.cells #[.float .f64 lo] 23)).alloc (.cells #[.float .f64 hi] 23)).alloc (.cells #[.float .f64 at_] 23)).alloc (.cells #[.bool turned] 4))) := ((((Below.refl w.heap.size w).alloc (Nat.le_refl _) _).alloc (by simp) _).alloc (by simp; omega) _).alloc (by simp; omega) _
  have o0 : (FloatKind.f64.format.order 0 0 != some .eq) = false := by decide
  rcases hc with o1 | ⟨o1, o2⟩ | ⟨o1, o2, h1⟩ | ⟨o1, o2, h1, h2⟩
  · clear hl hh o0
    go_enter Try.func5, Try.ntmps5
    go_wp2_with fail
    refine (awake12 _).mono ?_
    rintro e w5 ⟨rfl, hb5⟩
    have HB5 := hideS (HB.out.trans (hb5.mono HB.out.size))
    clear hb5
    go_wp2_with fail
    go_ret
    exact ⟨rfl, HB5.out⟩
  · clear hl hh o0
    go_enter Try.func5, Try.ntmps5
    go_wp2_with fail
    refine (awake12 _).mono ?_
    rintro e w5 ⟨rfl, hb5⟩
    have HB5 := hideS (HB.out.trans (hb5.mono HB.out.size))
    clear hb5
    go_wp2_with fail
    go_ret
    exact ⟨rfl, HB5.out⟩
  · have r2 := run_arith_nan (P := Try.prog) .sub (by simp) 23 lo lo (sub_inf (by have := hl.2; omega) h1)
    have o3 : ∀ z, (FloatKind.f64.format.order (nanAns lo lo z) 0 != some .eq) = true := fun z => by rw [order_nan_left (nanAns_nan lo lo z).1]; rfl
    clear hl hh o0 h1
    go_enter Try.func5, Try.ntmps5
    go_wp2_with fail
    refine (awake12 _).mono ?_
    rintro e w5 ⟨rfl, hb5⟩
    have HB5 := hideS (HB.out.drew.trans (hb5.mono HB.out.size))
    clear hb5
    go_wp2_with fail
    go_ret
    exact ⟨rfl, HB5.out⟩
  · have r1 := fun w => run_float_arith (P := Try.prog) w .sub 23 .f64 _ _ _ (sub_self h1)
    have r2 := run_arith_nan (P := Try.prog) .sub (by simp) 23 hi hi (sub_inf (by have := hh.2; omega) h2)
    have o3 : ∀ z, (FloatKind.f64.format.order (nanAns hi hi z) 0 != some .eq) = true := fun z => by rw [order_nan_left (nanAns_nan hi hi z).1]; rfl
    clear hl hh h1 h2
    go_enter Try.func5, Try.ntmps5
    go_wp2_with fail
    refine (awake12 _).mono ?_
    rintro e w5 ⟨rfl, hb5⟩
    have HB5 := hideS (HB.out.drew.trans (hb5.mono HB.out.size))
    clear hb5
    go_wp2_with fail
    go_ret
    exact ⟨rfl, HB5.out⟩

set_option maxRecDepth 20000 in
set_option maxHeartbeats 1600000 in
theorem jumps_go (lo hi at_ : Nat) (turned : Bool) (w : World) (hl : U64 (lo : Int)) (hh : U64 (hi : Int)) (gt : Gd at_ (rankI (at_ : Int))) (h1 : NumB lo) (h2 : NumB hi) (h3 : rankI (lo : Int) ≤ rankI (at_ : Int)) (h4 : rankI (at_ : Int) < rankI (hi : Int)) :
    Calls Try.prog 5 #[.float .f64 lo, .float .f64 hi, .float .f64 at_, .bool turned] w fun e w' => e = .returned (.bool true) ∧ Below w.heap.size w w' := by
  have hE : endB lo hi = true := by unfold endB; rw [fin_numB.2 h1, fin_numB.2 h2, decide_eq_true (show rankI (lo : Int) < rankI (hi : Int) by omega)]; rfl
  obtain ⟨gl, gh, _⟩ := endB_gd hl hh hE
  have o1 := leq_rank hl gt.u gl.n gt.n
  rw [decide_eq_true h3] at o1
  have o2 := lt_rank gt.u hh gt.n gh.n
  rw [decide_eq_true h4] at o2
  have r1 := fun w => run_float_arith (P := Try.prog) w .sub 23 .f64 _ _ _ (sub_self h1)
  have r2 := fun w => run_float_arith (P := Try.prog) w .sub 23 .f64 _ _ _ (sub_self h2)
  have o0 : (FloatKind.f64.format.order 0 0 != some .eq) = false := by decide
  have hfew := askV_few (jmpF (rankI (at_ : Int)) turned) lo hi
  rcases hV : askV (jmpF (rankI (at_ : Int)) turned) lo hi with ⟨X, N, E⟩
  rw [hV] at hfew
  have hfew : N ≤ 66 := hfew
  obtain ⟨rfl, gX⟩ := jmp_found hl hh hE h3 h4 hV
  have o3 := eq_rank gX.u gt.u gX.n gt.n
  rw [gX.e, decide_eq_true rfl] at o3
  have e : askV (jmpF (rankI (at_ : Int)) turned) lo hi = rootV (jmpF (rankI (at_ : Int)) turned) lo hi := by unfold askV; rw [if_pos hE]
  rw [e] at hV
  have HR := hideS fun w1 (hI : JmpI w lo hi at_ turned 0 w1) => root_ok 17 #[.pointer (some ⟨w.heap.size + 1 + 1 + 1 + 1, 0, none⟩), .pointer (some ⟨w.heap.size, 0, none⟩), .pointer (some ⟨w.heap.size + 1, 0, none⟩), .pointer (some ⟨w.heap.size + 1 + 1 + 1 + 1 + 1, 0, none⟩), .pointer (some ⟨w.heap.size + 1 + 1, 0, none⟩), .pointer (some ⟨w.heap.size + 1 + 1 + 1, 0, none⟩)] (jmpF (rankI (at_ : Int)) turned) (JmpI w lo hi at_ turned) lo hi X N 0 0 w1 (by omega) enter_jmp hl hh hE (fun a r k wr hk ga ha1 ha2 hI2 => by
    have := ga.e
    subst this
    refine (jmpLit_any lo hi at_ a k turned w wr hk hI2 ga gl gh gt ha1 ha2).mono ?_
    rintro e w' ⟨rfl, hI3⟩
    exact ⟨_, rfl, by unfold jmpV; split <;> (unfold U64; omega), rfl, hI3⟩) hI hV
  have HJ := hideS (jmp_six w lo hi at_ turned)
  have hmf := make_fnP
  clear hl hh gt h1 h2 h3 h4 hE gl gh hV e gX
  go_enter Try.func5, Try.ntmps5
  go_wp2_with fail
  refine (HR.out _ (HJ.out _ _ rfl rfl)).mono ?_
  rintro e w1 ⟨rfl, hI⟩
  rw [Nat.zero_add] at hI
  obtain ⟨c0, c1, c2, c3, c4, c5, f4, hb⟩ := hI
  have HB := hideS hb
  clear hb HR HJ
  go_wp2_with fail
  refine (awake12 _).mono ?_
  rintro e w5 ⟨rfl, hb5⟩
  have HB5 := hideS (HB.out.trans (hb5.mono HB.out.size))
  clear hb5
  go_wp2_with fail
  go_ret
  exact ⟨rfl, HB5.out⟩

theorem solveJumps_walk (lo hi at_ : Nat) (turned : Bool) (wl : (Lit.float .f64 lo).wf = true) (wh : (Lit.float .f64 hi).wf = true) (wa : (Lit.float .f64 at_).wf = true) (w : World) :
    Calls Try.prog 5 #[.float .f64 lo, .float .f64 hi, .float .f64 at_, .bool turned] w fun e w' => e = .returned (.bool true) ∧ Below w.heap.size w w' := by
  have hl := u64_of_wf wl
  have hh := u64_of_wf wh
  have ha := u64_of_wf wa
  cases o1 : ((FloatKind.f64.format.order lo at_ == some .lt) || (FloatKind.f64.format.order lo at_ == some .eq)) with
  | false => exact jumps_awake lo hi at_ turned w hl hh (Or.inl o1)
  | true =>
    cases o2 : (FloatKind.f64.format.order at_ hi == some .lt) with
    | false => exact jumps_awake lo hi at_ turned w hl hh (Or.inr (Or.inl ⟨o1, o2⟩))
    | true =>
      by_cases h1 : NumB lo
      · by_cases h2 : NumB hi
        · have hlt := o2
          rw [lt_ltB ha hh] at hlt
          unfold ltB at hlt
          rw [Bool.and_eq_true, Bool.and_eq_true] at hlt
          have na : nanB (at_ : Int) = false := by have := hlt.1.1; simpa using this
          have nl := fin_num (fin_numB.2 h1)
          rw [leq_rank hl ha nl na] at o1
          exact jumps_go lo hi at_ turned w hl hh ⟨ha, na, rfl⟩ h1 h2 (of_decide_eq_true o1) (of_decide_eq_true hlt.2)
        · exact jumps_awake lo hi at_ turned w hl hh (Or.inr (Or.inr (Or.inr ⟨o1, o2, h1, h2⟩)))
      · exact jumps_awake lo hi at_ turned w hl hh (Or.inr (Or.inr (Or.inl ⟨o1, o2, h1⟩)))
end Go.Proofs.Ytoeifjnknhjchaa
