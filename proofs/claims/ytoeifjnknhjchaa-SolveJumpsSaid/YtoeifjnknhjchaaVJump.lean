/- What a search tells, in plain words: how often, which word, where the signs change. -/
import Derived.Test.YtoeifjnknhjchaaHah
namespace Go.Proofs.Ytoeifjnknhjchaa
open Go.RowKit

theorem askV_few (F : Nat → Option Int) (lo hi : Nat) : (askV F lo hi).2.1 ≤ 66 := by
  unfold askV
  split
  · unfold rootV
    cases F lo with
    | none => show 1 ≤ 66; omega
    | some a =>
      show (match F hi with | none => _ | some b => _ : Nat × Nat × Int).2.1 ≤ 66
      cases F hi with
      | none => show 2 ≤ 66; omega
      | some b =>
        show (if a = 0 then _ else _ : Nat × Nat × Int).2.1 ≤ 66
        split
        · show 2 ≤ 66; omega
        · split
          · show 2 ≤ 66; omega
          · split
            · show 2 ≤ 66; omega
            · have := bis_cnt F (upB a) 64 lo hi
              show 2 + _ ≤ 66; omega
  · show 0 ≤ 66; omega
/-- What was found is a word. -/
theorem bis_word (F : Nat → Option Int) (up : Bool) : ∀ (f a b : Nat) (r s : Int), Gd a r → Gd b s → U64 ((bis F up f a b).1 : Int) := by
  intro f
  induction f with
  | zero => intro a b r s ga _; exact ga.u
  | succ f ih =>
    intro a b r s ga gb
    have gm := md_gd ga gb
    by_cases hm : rankI (mdN a b : Int) = rankI (a : Int)
    · rw [bis_stop hm]; exact ga.u
    · cases hF : F (mdN a b) with
      | none => rw [bis_nan hm hF]; show U64 ((0 : Nat) : Int); unfold U64; omega
      | some y =>
        by_cases y0 : y = 0
        · subst y0; rw [bis_zero hm hF]; exact gm.u
        · by_cases hu : upB y = up
          · rw [bis_low hm hF y0 hu]; exact ih (mdN a b) b _ s gm gb
          · rw [bis_high hm hF y0 hu]; exact ih a (mdN a b) r _ ga gm
theorem askV_word (F : Nat → Option Int) {lo hi : Nat} (hl : U64 (lo : Int)) (hh : U64 (hi : Int)) : U64 ((askV F lo hi).1 : Int) := by
  have z : U64 ((0 : Nat) : Int) := by unfold U64; omega
  unfold askV
  split
  · rename_i hE
    obtain ⟨gl, gh, _⟩ := endB_gd hl hh hE
    unfold rootV
    cases F lo with
    | none => exact z
    | some a =>
      show U64 (((match F hi with | none => _ | some b => _ : Nat × Nat × Int).1 : Nat) : Int)
      cases F hi with
      | none => exact z
      | some b =>
        show U64 (((if a = 0 then _ else _ : Nat × Nat × Int).1 : Nat) : Int)
        split
        · exact hl
        · split
          · exact hh
          · split
            · exact z
            · exact bis_word F (upB a) 64 lo hi _ _ gl gh
  · exact z

/-- What a search tells of a function that tells one rank at words of one rank. -/
inductive BrkP (F : Nat → Option Int) (lo hi X N : Nat) (E : Int) : Prop where
  | bad (h : endB lo hi = false) (hX : X = 0) (hN : N = 0) (hE : E = 1)
  | val (c : Nat) (hc : F c = none) (hX : X = 0) (hE : E = 91)
  | brk (a b : Int) (ha : F lo = some a) (hb : F hi = some b) (a0 : a ≠ 0) (b0 : b ≠ 0) (hu : upB a = upB b) (hX : X = 0) (hE : E = 120)
  | zero (x : Int) (h : endB lo hi = true) (g : Gd X x) (h1 : rankI (lo : Int) ≤ x) (h2 : x ≤ rankI (hi : Int)) (hF : F X = some 0) (hE : E = 0)
  | sgn (x v : Int) (h : endB lo hi = true) (g : Gd X x) (h1 : rankI (lo : Int) ≤ x) (h2 : x + 1 ≤ rankI (hi : Int)) (hF : F X = some v) (v0 : v ≠ 0) (hU : ∀ c, Gd c (x + 1) → ∃ z, F c = some z ∧ z ≠ 0 ∧ ¬ upB z = upB v) (hE : E = 0)
theorem brkP_of {F : Nat → Option Int} (hR : ∀ {a b : Nat} {r : Int}, Gd a r → Gd b r → F a = F b) {lo hi X N : Nat} {E : Int} (hl : U64 (lo : Int)) (hh : U64 (hi : Int)) (hV : askV F lo hi = (X, N, E)) : BrkP F lo hi X N E := by
  unfold askV at hV
  cases hE : endB lo hi with
  | false =>
    rw [if_neg (by rw [hE]; simp)] at hV
    injection hV with e1 e2
    injection e2 with e2 e3
    exact .bad hE e1.symm e2.symm e3.symm
  | true =>
    rw [if_pos hE] at hV
    obtain ⟨gl, gh, hlt⟩ := endB_gd hl hh hE
    cases ha : F lo with
    | none =>
      rw [rootV_n ha] at hV
      injection hV with e1 e2
      injection e2 with e2 e3
      exact .val lo ha e1.symm e3.symm
    | some a =>
      cases hb : F hi with
      | none =>
        rw [rootV_n2 ha hb] at hV
        injection hV with e1 e2
        injection e2 with e2 e3
        exact .val hi hb e1.symm e3.symm
      | some b =>
        rw [rootV_two ha hb] at hV
        by_cases a0 : a = 0
        · rw [if_pos a0] at hV
          injection hV with e1 e2
          injection e2 with e2 e3
          subst e1
          exact .zero _ hE gl (Int.le_refl _) (by omega) (by rw [ha, a0]) e3.symm
        rw [if_neg a0] at hV
        by_cases b0 : b = 0
        · rw [if_pos b0] at hV
          injection hV with e1 e2
          injection e2 with e2 e3
          subst e1
          exact .zero _ hE gh (by omega) (Int.le_refl _) (by rw [hb, b0]) e3.symm
        rw [if_neg b0] at hV
        by_cases hu : upB a = upB b
        · rw [if_pos hu] at hV
          injection hV with e1 e2
          injection e2 with e2 e3
          exact .brk a b ha hb a0 b0 hu e1.symm e3.symm
        · rw [if_neg hu] at hV
          injection hV with e1 e2
          injection e2 with e2 e3
          have hz := bis_finds F (upB a) 64 lo hi _ _ gl gh hlt (by have := gl.lo; have := gh.hi; omega) ⟨a, ha, a0, rfl⟩ ⟨b, hb, b0, fun h => hu h.symm⟩
          rw [e1, e3] at hz
          rcases hz.2 with ⟨z1, z2, c, z3⟩ | ⟨z1, x, gx, x1, x2, z2⟩
          · exact .val c z3 z2 z1
          · rcases z2 with z2 | ⟨v, c, z, p1, p2, p3, p4, p5, p6, p7, p8⟩
            · exact .zero x hE gx x1 x2 z2 z1
            · exact .sgn x v hE gx x1 p5 p1 p2 (fun d hd => ⟨z, (hR hd p4).trans p6, p7, by rw [p3]; exact p8⟩) z1

theorem leq_rank {a b : Nat} (ha : U64 a) (hb : U64 b) (hna : nanB a = false) (hnb : nanB b = false) : ((FloatKind.f64.format.order a b == some .lt) || (FloatKind.f64.format.order a b == some .eq)) = decide (rankI a ≤ rankI b) := by
  rw [lt_rank ha hb hna hnb, eq_rank ha hb hna hnb]
  by_cases c : rankI a < rankI b
  · rw [decide_eq_true c, decide_eq_true (show rankI a ≤ rankI b by omega)]; rfl
  · rw [decide_eq_false c]
    by_cases d : rankI a = rankI b
    · rw [decide_eq_true d, decide_eq_true (show rankI a ≤ rankI b by omega)]; rfl
    · rw [decide_eq_false d, decide_eq_false (show ¬ rankI a ≤ rankI b by omega)]; rfl
theorem up_gd {X : Nat} {x : Int} (g : Gd X x) (h : x + 1 ≤ 9218868437227405312) : Gd (upI (X : Int) 1).toNat (x + 1) := by
  have hlo := g.lo
  have ew : wrap64 (x + 1) = x + 1 := by unfold wrap64; omega
  have ho : atOk (x + 1) = true := (atOk_iff _).2 ⟨by omega, h⟩
  have e : upI (X : Int) 1 = atI (x + 1) := by
    unfold upI
    rw [g.n, g.e, ew, ho]
    rfl
  have hu := atI_u64 (x + 1)
  have ec : ((atI (x + 1)).toNat : Int) = atI (x + 1) := Int.toNat_of_nonneg hu.1
  rw [e]
  exact ⟨by rw [ec]; exact hu, by rw [ec]; exact nan_at ho, by rw [ec]; exact rank_at ho⟩
theorem fin_numB {x : Nat} : finB (x : Int) = true ↔ NumB x := by
  unfold finB NumB
  rw [szN, decide_eq_true_iff]
  omega

end Go.Proofs.Ytoeifjnknhjchaa
