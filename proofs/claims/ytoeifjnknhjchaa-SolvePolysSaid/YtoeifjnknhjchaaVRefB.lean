/- The document's search, phase by phase: what Told makes of one. -/
import Derived.Test.YtoeifjnknhjchaaVRefA
import Derived.Test.YtoeifjnknhjchaaHah
namespace Go.Proofs.Ytoeifjnknhjchaa
open Go.RowKit

theorem sz_rank {u : Nat} (h : nanB (u : Int) = false) : (szI (u : Int) == 0) = decide (rankI (u : Int) = 0) := by
  have hz := szI_lo (u : Int)
  unfold rankI
  rw [h]
  simp only [Bool.false_eq_true, if_false]
  by_cases c : szI (u : Int) = 0
  · rw [c]; split <;> simp
  · rw [beq_eq_false_iff_ne.2 c]
    split
    · exact (decide_eq_false (by omega)).symm
    · exact (decide_eq_false (by omega)).symm
theorem sg_rank {u : Nat} (h : nanB (u : Int) = false) (h0 : rankI (u : Int) ≠ 0) : sgB (u : Int) = !upB (rankI (u : Int)) := by
  have hz := szI_lo (u : Int)
  unfold rankI at *
  rw [h] at *
  simp only [Bool.false_eq_true, if_false] at *
  unfold upB
  cases hs : sgB (u : Int) with
  | true => rw [hs] at h0; simp only [if_true] at *; rw [decide_eq_false (by omega)]; rfl
  | false => rw [hs] at h0; simp only [Bool.false_eq_true, if_false] at *; rw [decide_eq_true (by omega)]; rfl

/-- A search of the document's, under way or ended, that will tell X, N, E. -/
def SrP (F : Nat → Option Int) (lo hi X N : Nat) (E : Int) (l h : Nat) (ng : Bool) (n : Int) (a f : Nat) (d : Bool) (x : Nat) (e : Int) : Prop :=
  (d = true ∧ x = X ∧ n = N ∧ e = E) ∨
  (d = false ∧ n = 0 ∧ l = lo ∧ h = hi ∧ a = lo ∧ rootV F lo hi = (X, N, E)) ∨
  (d = false ∧ n = 1 ∧ l = lo ∧ h = hi ∧ a = hi ∧ rootV F lo hi = (X, N, E) ∧ U64 (f : Int) ∧ ∃ y, rkO f = some y ∧ F lo = some y) ∨
  (d = false ∧ ∃ (up : Bool) (R S : Int) (N' g k : Nat) (r s : Int), BisS F up R S X N' E g l h k r s ∧ ¬ (r + s) / 2 = r ∧ a = mdN l h ∧ n = 2 + (k : Int) ∧ N = 2 + N' ∧ ng = !up)

set_option maxHeartbeats 800000 in
theorem halved_phase {F : Nat → Option Int} {lo hi X N' : Nat} {E : Int} {up : Bool} {R S : Int} {g l h k : Nat} {r s : Int} (hB : BisS F up R S X N' E g l h k r s) (a f x : Nat) (e : Int) :
    ∃ (r0 r1 : Nat) (r2 : Bool) (r3 : Int) (r4 r5 : Nat) (r6 : Bool) (r7 : Nat) (r8 : Int), SrP F lo hi X (2 + N') E r0 r1 r2 r3 r4 r5 r6 r7 r8 ∧ r3 = 2 + (k : Int) ∧
      ∀ w, Calls Try.prog 37 #[.agg #[.int .u64 l, .int .u64 h, .bool (!up), .int .i64 (2 + (k : Int)), .int .u64 a, .int .u64 f, .bool false, .int .u64 x, .int .i64 e]] w fun e w' => e = .returned (.agg #[.int .u64 r0, .int .u64 r1, .bool r2, .int .i64 r3, .int .u64 r4, .int .u64 r5, .bool r6, .int .u64 r7, .int .i64 r8]) ∧ Below w.heap.size w w' := by
  obtain ⟨c1, c2⟩ := md_cast hB.ga hB.gb
  have gm := hB.md
  have HM : Hid (∀ wx, Calls Try.prog 46 #[.int .u64 (l : Int), .int .u64 (h : Int)] wx fun e w' => e = .returned (.tuple #[.int .u64 (mdN l h : Int), .bool true]) ∧ w' = wx) := fun wx => by
    have := refMid_any (l : Int) (h : Int) wx hB.ga.u hB.gb.u
    rw [← c1, c2] at this; exact this
  have HR : Hid (∀ wx, Calls Try.prog 45 #[.int .u64 (mdN l h : Int)] wx fun e w' => e = .returned (.tuple #[.int .i64 ((r + s) / 2), .bool true]) ∧ w' = wx) := fun wx => by
    have := refRank_any (mdN l h : Int) wx gm.u
    rw [gm.e, gm.n] at this; exact this
  have HL : Hid (∀ wx, Calls Try.prog 45 #[.int .u64 (l : Int)] wx fun e w' => e = .returned (.tuple #[.int .i64 r, .bool true]) ∧ w' = wx) := fun wx => by
    have := refRank_any (l : Int) wx hB.ga.u
    rw [hB.ga.e, hB.ga.n] at this; exact this
  by_cases hm : (r + s) / 2 = r
  · obtain ⟨rfl, rfl, rfl⟩ := hB.stop hm
    exact ⟨_, _, _, _, _, _, _, _, _, Or.inl ⟨rfl, rfl, by omega, rfl⟩, rfl, fun w => ref12Halved_stop _ _ _ _ _ _ _ _ _ _ _ _ w HM HR HL (beq_iff_eq.2 hm)⟩
  · exact ⟨_, _, _, _, _, _, _, _, _, Or.inr (Or.inr (Or.inr ⟨rfl, up, R, S, N', g, k, r, s, hB, hm, rfl, rfl, rfl, rfl⟩)), rfl, fun w => ref12Halved_on _ _ _ _ _ _ _ _ _ _ _ _ w HM HR HL (beq_eq_false_iff_ne.2 hm)⟩

theorem srP_few {F : Nat → Option Int} {lo hi X N : Nat} {E : Int} {l h : Nat} {ng : Bool} {n : Int} {a f : Nat} {x : Nat} {e : Int} (hP : SrP F lo hi X N E l h ng n a f false x e) : 0 ≤ n ∧ n ≤ 66 := by
  rcases hP with ⟨hd, _⟩ | ⟨_, rfl, _⟩ | ⟨_, rfl, _⟩ | ⟨_, up, R, S, N', g, k, r, s, hB, _, _, rfl, _⟩
  · simp at hd
  · omega
  · omega
  · have := hB.few; omega

set_option maxHeartbeats 800000 in
theorem told_phase {F : Nat → Option Int} {lo hi X N : Nat} {E : Int} {l h : Nat} {ng : Bool} {n : Int} {a f : Nat} {x : Nat} {e : Int} (hl : U64 (lo : Int)) (hh : U64 (hi : Int)) (hE : endB lo hi = true) (hP : SrP F lo hi X N E l h ng n a f false x e) (u : Nat) (hu : U64 (u : Int)) (hF : rkO u = F a) :
    ∃ (r0 r1 : Nat) (r2 : Bool) (r3 : Int) (r4 r5 : Nat) (r6 : Bool) (r7 : Nat) (r8 : Int), SrP F lo hi X N E r0 r1 r2 r3 r4 r5 r6 r7 r8 ∧ r3 = n + 1 ∧
      ∀ w, Calls Try.prog 21 #[.agg #[.int .u64 l, .int .u64 h, .bool ng, .int .i64 n, .int .u64 a, .int .u64 f, .bool false, .int .u64 x, .int .i64 e], .int .u64 u] w fun e w' => e = .returned (.agg #[.int .u64 r0, .int .u64 r1, .bool r2, .int .i64 r3, .int .u64 r4, .int .u64 r5, .bool r6, .int .u64 r7, .int .i64 r8]) ∧ Below w.heap.size w w' := by
  have hn66 := srP_few hP
  obtain ⟨gl, gh, hlt⟩ := endB_gd hl hh hE
  cases hn : nanB (u : Int) with
  | true =>
    have HN : Hid (∀ wx, Calls Try.prog 34 #[.int .u64 (u : Int)] wx fun e w' => e = .returned (.bool true) ∧ w' = wx) := fun wx => by
      have := refNaN_any (u : Int) wx hu
      rw [hn] at this; exact this
    rw [rkO_nan hn] at hF
    refine ⟨l, h, ng, n + 1, a, f, true, 0, 91, Or.inl ?_, rfl, fun w => ref12Told_nan _ _ _ _ _ _ _ _ _ _ w HN (by omega) (by omega)⟩
    rcases hP with ⟨hd, _⟩ | ⟨_, en, el, eh, ea, hV⟩ | ⟨_, en, el, eh, ea, hV, _, y, _, hy⟩ | ⟨_, up, R, S, N', g, k, r, s, hB, hm, rfl, rfl, rfl, rfl⟩
    · simp at hd
    · rw [ea] at hF
      rw [rootV_n hF.symm] at hV
      injection hV with e1 e2
      injection e2 with e2 e3
      exact ⟨rfl, e1, by omega, e3⟩
    · rw [ea] at hF
      rw [rootV_n2 hy hF.symm] at hV
      injection hV with e1 e2
      injection e2 with e2 e3
      exact ⟨rfl, e1, by omega, e3⟩
    · obtain ⟨rfl, rfl, rfl⟩ := hB.nan hm hF.symm
      exact ⟨rfl, rfl, by omega, rfl⟩
  | false =>
    have HN : Hid (∀ wx, Calls Try.prog 34 #[.int .u64 (u : Int)] wx fun e w' => e = .returned (.bool false) ∧ w' = wx) := fun wx => by
      have := refNaN_any (u : Int) wx hu
      rw [hn] at this; exact this
    have HZ : Hid (∀ wx, Calls Try.prog 35 #[.int .u64 (u : Int)] wx fun e w' => e = .returned (.int .u64 (szI (u : Int))) ∧ w' = wx) := fun wx => refSize_any _ wx hu
    have HG : Hid (∀ wx, Calls Try.prog 36 #[.int .u64 (u : Int)] wx fun e w' => e = .returned (.bool (sgB (u : Int))) ∧ w' = wx) := fun wx => refNegative_any _ wx
    rw [rkO_num hn] at hF
    have hrk := rkO_num hn
    have z1 := sz_rank hn
    have z2 := sg_rank hn
    generalize rankI (u : Int) = z at *
    rcases hP with ⟨hd, _⟩ | ⟨_, en, el, eh, ea, hV⟩ | ⟨_, en, el, eh, ea, hV, hf, y, hfy, hy⟩ | ⟨_, up, R, S, N', g, k, r, s, hB, hm, rfl, rfl, rfl, rfl⟩
    · simp at hd
    · rw [ea] at hF
      rw [en, el, eh, ea]
      exact ⟨lo, hi, ng, 1, hi, u, false, x, e, Or.inr (Or.inr (Or.inl ⟨rfl, rfl, rfl, rfl, rfl, hV, hu, z, hrk, hF.symm⟩)), rfl, fun w => ref12Told_first _ _ _ _ _ _ _ _ _ w HN⟩
    · rw [ea] at hF
      rw [en, el, eh, ea]
      obtain ⟨fn, fr⟩ := rkO_some hfy
      have HZf : Hid (∀ wx, Calls Try.prog 35 #[.int .u64 (f : Int)] wx fun e w' => e = .returned (.int .u64 (szI (f : Int))) ∧ w' = wx) := fun wx => refSize_any _ wx hf
      have HGf : Hid (∀ wx, Calls Try.prog 36 #[.int .u64 (f : Int)] wx fun e w' => e = .returned (.bool (sgB (f : Int))) ∧ w' = wx) := fun wx => refNegative_any _ wx
      have y1 := sz_rank fn
      have y2 := sg_rank fn
      rw [fr] at y1 y2
      rw [rootV_two hy hF.symm] at hV
      by_cases y0 : y = 0
      · rw [if_pos y0] at hV
        injection hV with e1 e2
        injection e2 with e2 e3
        rw [decide_eq_true y0] at y1
        exact ⟨lo, hi, ng, 2, hi, f, true, lo, 0, Or.inl ⟨rfl, e1, by omega, e3⟩, rfl, fun w => ref12Told_lo _ _ _ _ _ _ _ _ _ _ w HN HZf y1⟩
      rw [if_neg y0] at hV
      rw [decide_eq_false y0] at y1
      by_cases z0 : z = 0
      · rw [if_pos z0] at hV
        injection hV with e1 e2
        injection e2 with e2 e3
        rw [decide_eq_true z0] at z1
        exact ⟨lo, hi, ng, 2, hi, f, true, hi, 0, Or.inl ⟨rfl, e1, by omega, e3⟩, rfl, fun w => ref12Told_hi _ _ _ _ _ _ _ _ _ _ _ w HN HZf HZ y1 z1⟩
      rw [if_neg z0] at hV
      rw [decide_eq_false z0] at z1
      have gf := y2 y0
      have gv := z2 z0
      by_cases hub : upB y = upB z
      · rw [if_pos hub] at hV
        injection hV with e1 e2
        injection e2 with e2 e3
        exact ⟨lo, hi, _, 2, hi, f, true, 0, 120, Or.inl ⟨rfl, e1, by omega, e3⟩, rfl, fun w => ref12Told_brk _ _ _ _ _ _ _ _ _ _ _ _ _ w HN HZf HZ HGf HG y1 z1 (by rw [gf, gv, hub]; simp)⟩
      · rw [if_neg hub] at hV
        injection hV with e1 e2
        injection e2 with e2 e3
        have hB := bisS_begin F (upB y) gl gh hlt
        rw [e1, e3] at hB
        obtain ⟨r0, r1, r2, r3, r4, r5, r6, r7, r8, hP2, hr3, hC⟩ := halved_phase (lo := lo) (hi := hi) hB hi f x e
        rw [e2] at hP2
        refine ⟨r0, r1, r2, r3, r4, r5, r6, r7, r8, hP2, by omega, fun w => ref12Told_two _ _ _ _ _ _ _ _ _ _ _ _ _ _ _ _ _ _ _ _ _ _ w HN HZf HZ HGf HG ?_ y1 z1 ?_⟩
        · intro wx
          rw [gf]
          exact hC wx
        · rw [gf, gv]
          cases hy3 : upB y <;> cases hz3 : upB z <;> simp [hy3, hz3] at hub ⊢
    · by_cases z0 : z = 0
      · rw [decide_eq_true z0] at z1
        obtain ⟨rfl, rfl, rfl⟩ := hB.zero hm (by rw [← hF, z0])
        exact ⟨l, h, _, 2 + (k : Int) + 1, _, f, true, _, 0, Or.inl ⟨rfl, rfl, by omega, rfl⟩, rfl, fun w => ref12Told_zero _ _ _ _ _ _ _ _ _ _ _ w HN HZ (by omega) (by omega) z1⟩
      rw [decide_eq_false z0] at z1
      have gv := z2 z0
      by_cases hub : upB z = up
      · obtain ⟨g', _, hB2⟩ := hB.low hm hF.symm z0 hub
        obtain ⟨r0, r1, r2, r3, r4, r5, r6, r7, r8, hP2, hr3, hC⟩ := halved_phase (lo := lo) (hi := hi) hB2 (mdN l h) f x e
        rw [show (2 : Int) + ((k + 1 : Nat) : Int) = 2 + (k : Int) + 1 by omega] at hr3 hC
        exact ⟨r0, r1, r2, r3, r4, r5, r6, r7, r8, hP2, hr3, fun w => ref12Told_low _ _ _ _ _ _ _ _ _ _ _ _ _ _ _ _ _ _ _ _ _ w HN HZ HG hC (by omega) (by omega) z1 (by rw [gv, hub]; simp)⟩
      · obtain ⟨g', _, hB2⟩ := hB.high hm hF.symm z0 hub
        obtain ⟨r0, r1, r2, r3, r4, r5, r6, r7, r8, hP2, hr3, hC⟩ := halved_phase (lo := lo) (hi := hi) hB2 (mdN l h) f x e
        rw [show (2 : Int) + ((k + 1 : Nat) : Int) = 2 + (k : Int) + 1 by omega] at hr3 hC
        refine ⟨r0, r1, r2, r3, r4, r5, r6, r7, r8, hP2, hr3, fun w => ref12Told_high _ _ _ _ _ _ _ _ _ _ _ _ _ _ _ _ _ _ _ _ _ w HN HZ HG hC (by omega) (by omega) z1 ?_⟩
        rw [gv]
        cases hy3 : upB z <;> cases up <;> simp [hy3] at hub ⊢
end Go.Proofs.Ytoeifjnknhjchaa
