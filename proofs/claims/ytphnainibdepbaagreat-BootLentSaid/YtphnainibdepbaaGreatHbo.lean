/- The contracts of package boot's within, isNumber, isQuote, checkQuote, checkFrame and Check. The contract of package curve's Single where the curve may be. The document's Of of a curve that came in. Cut out of KFew. The document's Same of curves that are one; the law's noughts. -/
import Derived.Test.YtphnainibdepbaaGreatHav
import Derived.Test.YtphnainibdepbaaGreatHbn
import Derived.Test.YtphnainibdepbaaGreatHaw
import Derived.Test.YtphnainibdepbaaGreatHam
import Derived.Test.YtphnainibdepbaaGreatHbf
import Derived.Test.YtphnainibdepbaaGreatHba
import Derived.Deep.QuietTactic
namespace Go.Proofs.YtphnainibdepbaaGreat
open Go.RowKit

theorem bIn_any (n lo hi : Int) (w : World) :
    Calls Tryz.prog 24 #[.int .i64 n, .int .i64 lo, .int .i64 hi] w fun e w' => e = .returned (.bool (decide (lo ≤ n ∧ n ≤ hi))) ∧ w' = w := by
  by_cases h1 : lo ≤ n <;> by_cases h2 : n ≤ hi
  all_goals
    first | rw [decide_eq_true (⟨h1, h2⟩ : lo ≤ n ∧ n ≤ hi)] | rw [decide_eq_false (fun h : lo ≤ n ∧ n ≤ hi => by omega)]
    go_enter Tryz.func24, Tryz.ntmps24
    go_wp2
    go_ret
    exact ⟨rfl, rfl⟩
set_option maxHeartbeats 800000 in
theorem bNum_any (r : Nat) (w : World) :
    Calls Tryz.prog 41 #[.float .f32 r] w fun e w' => e = .returned (.bool (finB (dblW r : Nat))) ∧ Below w.heap.size w w' := by
  rcases (show 2139095040 < r % 2147483648 ∨ r % 2147483648 ≤ 2139095040 by omega) with h | h
  · obtain ⟨x, hr, hx, hn⟩ := run_up_nan r h w
    have H1 := hideS fun w => isNaN_math x w (by unfold U64; omega)
    rw [hn] at H1
    have HB : Hid (Below w.heap.size w w.drew) := ⟨rfl, rfl, rfl, Nat.le_refl _, fun _ _ => rfl⟩
    rw [dblW_fin, decide_eq_false (by omega)]
    clear h hn hx
    go_enter Tryz.func41, Tryz.ntmps41
    go_wp2_with fail
    refine (H1.out _).mono ?_
    rintro e w' ⟨rfl, rfl⟩
    go_wp2_with fail
    go_ret
    exact ⟨rfl, HB.out⟩
  · have hr : ∀ w, (convert 28 42 (.float .f32 r)).run Tryz.prog w = .ok (.float .f64 (dblW r)) w := fun w => run_convert_float_float (P := Tryz.prog) (w := w) 28 42 .f32 .f64 r (dblW r) (by rw [und32]; rfl) und64 (conv_dblW h)
    have hn : nanB (dblW r : Nat) = false := by rw [dblW_nan, decide_eq_false (by omega)]
    have hu : U64 (dblW r : Nat) := by
      have := dblW_fit r
      unfold U64; omega
    have H1 := hideS fun w => isNaN_math (dblW r) w hu
    rw [hn] at H1
    have H2 := hideS fun w => isInf_both (dblW r) _ w hu (inf_gt hn)
    generalize finB (dblW r : Nat) = b at *
    generalize dblW r = x at *
    clear h hn hu
    cases b
    all_goals
      go_enter Tryz.func41, Tryz.ntmps41
      go_wp2_with fail
      refine (H1.out _).mono ?_
      rintro e w' ⟨rfl, rfl⟩
      go_wp2_with fail
      refine (H2.out _).mono ?_
      rintro e w' ⟨rfl, rfl⟩
      go_wp2_with fail
      go_ret
      exact ⟨rfl, Below.refl _ _⟩
structure QBx (w : World) (q : Quo) (wr : World) : Prop where
  t0 : wr.cell? ⟨w.heap.size, 0, none⟩ = some (.int .i64 q.kind)
  t1 : wr.cell? ⟨w.heap.size, 1, none⟩ = some (.int .i64 q.fin)
  t2 : wr.cell? ⟨w.heap.size, 2, none⟩ = some (.int .i64 q.count)
  t3 : wr.cell? ⟨w.heap.size, 3, none⟩ = some (.int .i64 q.n)
  t4 : wr.cell? ⟨w.heap.size, 4, none⟩ = some (.float .f32 q.rate)
  bl : Below w.heap.size w wr
  lt : w.heap.size < wr.heap.size
theorem qbx_at (w : World) (q : Quo) : QBx w q (w.alloc (.cells #[.int .i64 q.kind, .int .i64 q.fin, .int .i64 q.count, .int .i64 q.n, .float .f32 q.rate] 30)) :=
  ⟨by simp, by simp, by simp, by simp, by simp, (Below.refl _ _).alloc (Nat.le_refl _) _, by simp⟩
theorem QBx.step {w wr w' : World} {q : Quo} (h : QBx w q wr) (hb : Below wr.heap.size wr w') : QBx w q w' :=
  ⟨(hb.cell (p := ⟨w.heap.size, 0, none⟩) h.lt).trans h.t0, (hb.cell (p := ⟨w.heap.size, 1, none⟩) h.lt).trans h.t1, (hb.cell (p := ⟨w.heap.size, 2, none⟩) h.lt).trans h.t2, (hb.cell (p := ⟨w.heap.size, 3, none⟩) h.lt).trans h.t3, (hb.cell (p := ⟨w.heap.size, 4, none⟩) h.lt).trans h.t4, h.bl.trans (hb.mono h.bl.size), Nat.lt_of_lt_of_le h.lt hb.size⟩

set_option maxHeartbeats 1600000 in
theorem bQuote_any (q : Quo) (w : World) :
    Calls Tryz.prog 26 #[.agg #[.int .i64 q.kind, .int .i64 q.fin, .int .i64 q.count, .int .i64 q.n, .float .f32 q.rate]] w fun e w' => e = .returned (.bool (!badQ q)) ∧ Below w.heap.size w w' := by
  obtain ⟨kind, fin, count, n, r⟩ := q
  have H0 := hideS (qbx_at w ⟨kind, fin, count, n, r⟩)
  have HN := hideS fun wx => bNum_any r wx
  have HI := hideS fun wx => bIn_any n 1 120 wx
  have HBd : Hid (badQ ⟨kind, fin, count, n, r⟩ = ((decide (kind ≠ 1) && decide (kind ≠ 2)) || (decide (kind = 1) && decide (n ≠ 0)) || (decide (kind = 2) && (decide (n < 1) || decide (120 < n))) || !finB (dblW r : Nat))) := rfl
  dsimp only at *
  by_cases k1 : kind = 1
  · subst k1
    by_cases n0 : n = 0
    · subst n0
      have hres : (!badQ ⟨1, fin, count, 0, r⟩) = finB (dblW r : Nat) := by rw [HBd.out]; cases finB (dblW r : Nat) <;> rfl
      rw [hres]
      generalize finB (dblW r : Nat) = b at *
      clear HBd hres
      go_enter Tryz.func26, Tryz.ntmps26
      go_wp2_with fail
      refine (HN.out _).mono ?_
      rintro e w1 ⟨rfl, hb⟩
      have H1 := hideS (H0.out.step hb)
      clear hb
      go_wp2_with fail
      go_ret
      exact ⟨rfl, H1.out.bl⟩
    · have hres : (!badQ ⟨1, fin, count, n, r⟩) = false := by rw [HBd.out, decide_eq_true (show n ≠ 0 from n0)]; simp
      rw [hres]
      have d0 : (n == 0) = false := beq_eq_false_iff_ne.2 n0
      clear HBd hres n0
      go_enter Tryz.func26, Tryz.ntmps26
      go_wp2_with fail
      go_ret
      exact ⟨rfl, H0.out.bl⟩
  · by_cases k2 : kind = 2
    · subst k2
      by_cases hn : 1 ≤ n ∧ n ≤ 120
      · have hres : (!badQ ⟨2, fin, count, n, r⟩) = finB (dblW r : Nat) := by rw [HBd.out, decide_eq_false (show ¬ n < 1 by omega), decide_eq_false (show ¬ 120 < n by omega)]; cases finB (dblW r : Nat) <;> rfl
        rw [hres]
        rw [decide_eq_true hn] at HI
        generalize finB (dblW r : Nat) = b at *
        clear HBd hres hn k1
        go_enter Tryz.func26, Tryz.ntmps26
        go_wp2_with fail
        refine (HI.out _).mono ?_
        rintro e w1 ⟨rfl, rfl⟩
        go_wp2_with fail
        refine (HN.out _).mono ?_
        rintro e w1 ⟨rfl, hb⟩
        have H1 := hideS (H0.out.step hb)
        clear hb
        go_wp2_with fail
        go_ret
        exact ⟨rfl, H1.out.bl⟩
      · have hres : (!badQ ⟨2, fin, count, n, r⟩) = false := by
          rw [HBd.out]
          rcases (show n < 1 ∨ 120 < n by omega) with c | c
          · rw [decide_eq_true c]; simp
          · rw [decide_eq_true c]; simp
        rw [hres]
        rw [decide_eq_false hn] at HI
        clear HBd hres hn k1
        go_enter Tryz.func26, Tryz.ntmps26
        go_wp2_with fail
        refine (HI.out _).mono ?_
        rintro e w1 ⟨rfl, rfl⟩
        go_wp2_with fail
        go_ret
        exact ⟨rfl, H0.out.bl⟩
    · have hres : (!badQ ⟨kind, fin, count, n, r⟩) = false := by rw [HBd.out, decide_eq_true (show kind ≠ 1 from k1), decide_eq_true (show kind ≠ 2 from k2)]; simp
      rw [hres]
      have d1 : (kind == 1) = false := beq_eq_false_iff_ne.2 k1
      have d2 : (kind == 2) = false := beq_eq_false_iff_ne.2 k2
      clear HBd hres k1 k2
      go_enter Tryz.func26, Tryz.ntmps26
      go_wp2_with fail
      go_ret
      exact ⟨rfl, H0.out.bl⟩

set_option maxHeartbeats 1600000 in
theorem bFit_any (q : Quo) (last : Int) (w : World) (hl : 0 ≤ last) (hl2 : last ≤ 109572) :
    Calls Tryz.prog 15 #[.agg #[.int .i64 q.kind, .int .i64 q.fin, .int .i64 q.count, .int .i64 q.n, .float .f32 q.rate], .int .i64 last] w fun e w' => e = .returned (.int .i64 (fitQ q last)) ∧ Below w.heap.size w w' := by
  have H0 := hideS (qbx_at w q)
  have HQ := hideS fun wx => bQuote_any q wx
  have HC := hideS fun wx => bIn_any q.count 1 6 wx
  have HE := hideS fun wx => bIn_any q.fin (last + 1) 109572 wx
  have HF : Hid (fitQ q last = if badQ q = true then 130 else if q.count < 1 ∨ 6 < q.count then 70 else if q.fin ≤ last ∨ 109572 < q.fin then 131 else 0) := rfl
  rw [HF.out]
  obtain ⟨kind, fin, count, n, r⟩ := q
  dsimp only at *
  cases hb : badQ ⟨kind, fin, count, n, r⟩ with
  | true =>
    rw [if_pos rfl]
    rw [hb] at HQ
    clear hb HF
    go_enter Tryz.func15, Tryz.ntmps15
    go_wp2_with fail
    refine (HQ.out _).mono ?_
    rintro e w1 ⟨rfl, hb⟩
    have H1 := hideS (H0.out.step hb)
    clear hb
    go_wp2_with fail
    go_ret
    exact ⟨rfl, H1.out.bl⟩
  | false =>
    rw [if_neg (by simp)]
    rw [hb] at HQ
    clear hb HF
    by_cases hc : count < 1 ∨ 6 < count
    · rw [if_pos hc]
      rw [decide_eq_false (fun h : 1 ≤ count ∧ count ≤ 6 => by omega)] at HC
      clear hc
      go_enter Tryz.func15, Tryz.ntmps15
      go_wp2_with fail
      refine (HQ.out _).mono ?_
      rintro e w1 ⟨rfl, hb⟩
      have H1 := hideS (H0.out.step hb)
      have c2 := H1.out.t2
      dsimp only at c2
      clear hb
      go_wp2_with fail
      refine (HC.out _).mono ?_
      rintro e w2 ⟨rfl, rfl⟩
      go_wp2_with fail
      go_ret
      exact ⟨rfl, H1.out.bl⟩
    · rw [if_neg hc]
      rw [decide_eq_true (show 1 ≤ count ∧ count ≤ 6 by omega)] at HC
      clear hc
      by_cases he : fin ≤ last ∨ 109572 < fin
      · rw [if_pos he]
        rw [decide_eq_false (fun h : last + 1 ≤ fin ∧ fin ≤ 109572 => by omega)] at HE
        clear he
        go_enter Tryz.func15, Tryz.ntmps15
        go_wp2_with fail
        refine (HQ.out _).mono ?_
        rintro e w1 ⟨rfl, hb⟩
        have H1 := hideS (H0.out.step hb)
        have c1 := H1.out.t1
        have c2 := H1.out.t2
        dsimp only at c1 c2
        clear hb
        go_wp2_with fail
        refine (HC.out _).mono ?_
        rintro e w2 ⟨rfl, rfl⟩
        go_wp2_with fail
        refine (HE.out _).mono ?_
        rintro e w2 ⟨rfl, rfl⟩
        go_wp2_with fail
        go_ret
        exact ⟨rfl, H1.out.bl⟩
      · rw [if_neg he]
        rw [decide_eq_true (show last + 1 ≤ fin ∧ fin ≤ 109572 by omega)] at HE
        clear he
        go_enter Tryz.func15, Tryz.ntmps15
        go_wp2_with fail
        refine (HQ.out _).mono ?_
        rintro e w1 ⟨rfl, hb⟩
        have H1 := hideS (H0.out.step hb)
        have c1 := H1.out.t1
        have c2 := H1.out.t2
        dsimp only at c1 c2
        clear hb
        go_wp2_with fail
        refine (HC.out _).mono ?_
        rintro e w2 ⟨rfl, rfl⟩
        go_wp2_with fail
        refine (HE.out _).mono ?_
        rintro e w2 ⟨rfl, rfl⟩
        go_wp2_with fail
        go_ret
        exact ⟨rfl, H1.out.bl⟩
theorem calbx (w : World) (W : Int) (v : Value) : Below w.heap.size w (w.alloc (.cells #[.int .i64 W, v] 24)) := (Below.refl _ _).alloc (Nat.le_refl _) _

inductive FrmR (base kind A : Int) (N : Nat) : Int → Prop
  | base (h : base < 0 ∨ 109572 < base) : FrmR base kind A N 51
  | kind (b0 : 0 ≤ base) (b1 : base ≤ 109572) (h : kind < 1 ∨ 4 < kind) : FrmR base kind A N 90
  | cal (b0 : 0 ≤ base) (b1 : base ≤ 109572) (k1 : 1 ≤ kind) (k4 : kind ≤ 4) (h : A ≠ 0) : FrmR base kind A N A
  | long (b0 : 0 ≤ base) (b1 : base ≤ 109572) (k1 : 1 ≤ kind) (k4 : kind ≤ 4) (a0 : A = 0) (h : 64 < N) : FrmR base kind A N 2
  | none (b0 : 0 ≤ base) (b1 : base ≤ 109572) (k1 : 1 ≤ kind) (k4 : kind ≤ 4) (a0 : A = 0) (h : N = 0) : FrmR base kind A N 100
  | ok (b0 : 0 ≤ base) (b1 : base ≤ 109572) (k1 : 1 ≤ kind) (k4 : kind ≤ 4) (a0 : A = 0) (lo : 1 ≤ N) (hi : N ≤ 64) : FrmR base kind A N 0

set_option maxHeartbeats 1600000 in
theorem bFrame_any (base kind W A B E : Int) (v : Value) (N : Nat) (w : World) (h : FrmR base kind A N E)
    (HC : Hid (∀ wx, Below w.heap.size w wx → Calls Tryz.prog 25 #[.agg #[.int .i64 W, v]] wx fun e w' => e = .returned (.tuple #[.int .i64 A, .int .i64 B]) ∧ Below wx.heap.size wx w')) :
    Calls Tryz.prog 14 #[.int .i64 base, .int .i64 kind, .agg #[.int .i64 W, v], .int .i64 N] w fun e w' => e = .returned (.int .i64 E) ∧ Below w.heap.size w w' := by
  have H0 := hideS (calbx w W v)
  have HB := hideS fun wx => bIn_any base 0 109572 wx
  have HK := hideS fun wx => bIn_any kind 1 4 wx
  cases h with
  | base h =>
    rw [decide_eq_false (fun c : 0 ≤ base ∧ base ≤ 109572 => by omega)] at HB
    clear h HC HK
    go_enter Tryz.func14, Tryz.ntmps14
    go_wp2_with fail
    refine (HB.out _).mono ?_
    rintro e w1 ⟨rfl, rfl⟩
    go_wp2_with fail
    go_ret
    exact ⟨rfl, H0.out⟩
  | kind b0 b1 h =>
    rw [decide_eq_true (⟨b0, b1⟩ : 0 ≤ base ∧ base ≤ 109572)] at HB
    rw [decide_eq_false (fun c : 1 ≤ kind ∧ kind ≤ 4 => by omega)] at HK
    clear h HC b0 b1
    go_enter Tryz.func14, Tryz.ntmps14
    go_wp2_with fail
    refine (HB.out _).mono ?_
    rintro e w1 ⟨rfl, rfl⟩
    go_wp2_with fail
    refine (HK.out _).mono ?_
    rintro e w1 ⟨rfl, rfl⟩
    go_wp2_with fail
    go_ret
    exact ⟨rfl, H0.out⟩
  | cal b0 b1 k1 k4 h =>
    rw [decide_eq_true (⟨b0, b1⟩ : 0 ≤ base ∧ base ≤ 109572)] at HB
    rw [decide_eq_true (⟨k1, k4⟩ : 1 ≤ kind ∧ kind ≤ 4)] at HK
    have d1 : (A != 0) = true := bne_iff_ne.2 h
    clear h b0 b1 k1 k4
    go_enter Tryz.func14, Tryz.ntmps14
    go_wp2_with fail
    refine (HB.out _).mono ?_
    rintro e w1 ⟨rfl, rfl⟩
    go_wp2_with fail
    refine (HK.out _).mono ?_
    rintro e w1 ⟨rfl, rfl⟩
    go_wp2_with fail
    refine (HC.out _ H0.out).mono ?_
    rintro e w1 ⟨rfl, hb1⟩
    have H1 := hideS (H0.out.trans (hb1.mono H0.out.size))
    clear hb1
    go_wp2_with fail
    go_ret
    exact ⟨rfl, H1.out⟩
  | long b0 b1 k1 k4 a0 h =>
    rw [decide_eq_true (⟨b0, b1⟩ : 0 ≤ base ∧ base ≤ 109572)] at HB
    rw [decide_eq_true (⟨k1, k4⟩ : 1 ≤ kind ∧ kind ≤ 4)] at HK
    subst a0
    have d5 : decide ((64 : Int) < (N : Int)) = true := decide_eq_true (by omega)
    clear h b0 b1 k1 k4
    go_enter Tryz.func14, Tryz.ntmps14
    go_wp2_with fail
    refine (HB.out _).mono ?_
    rintro e w1 ⟨rfl, rfl⟩
    go_wp2_with fail
    refine (HK.out _).mono ?_
    rintro e w1 ⟨rfl, rfl⟩
    go_wp2_with fail
    refine (HC.out _ H0.out).mono ?_
    rintro e w1 ⟨rfl, hb1⟩
    have H1 := hideS (H0.out.trans (hb1.mono H0.out.size))
    clear hb1
    go_wp2_with fail
    go_ret
    exact ⟨rfl, H1.out⟩
  | none b0 b1 k1 k4 a0 h =>
    rw [decide_eq_true (⟨b0, b1⟩ : 0 ≤ base ∧ base ≤ 109572)] at HB
    rw [decide_eq_true (⟨k1, k4⟩ : 1 ≤ kind ∧ kind ≤ 4)] at HK
    subst a0 h
    clear b0 b1 k1 k4
    go_enter Tryz.func14, Tryz.ntmps14
    go_wp2_with fail
    refine (HB.out _).mono ?_
    rintro e w1 ⟨rfl, rfl⟩
    go_wp2_with fail
    refine (HK.out _).mono ?_
    rintro e w1 ⟨rfl, rfl⟩
    go_wp2_with fail
    refine (HC.out _ H0.out).mono ?_
    rintro e w1 ⟨rfl, hb1⟩
    have H1 := hideS (H0.out.trans (hb1.mono H0.out.size))
    clear hb1
    go_wp2_with fail
    go_ret
    exact ⟨rfl, H1.out⟩
  | ok b0 b1 k1 k4 a0 lo hi =>
    rw [decide_eq_true (⟨b0, b1⟩ : 0 ≤ base ∧ base ≤ 109572)] at HB
    rw [decide_eq_true (⟨k1, k4⟩ : 1 ≤ kind ∧ kind ≤ 4)] at HK
    subst a0
    have d5 : decide ((64 : Int) < (N : Int)) = false := decide_eq_false (by omega)
    have d6 : ((N : Int) == 0) = false := beq_eq_false_iff_ne.2 (by omega)
    clear b0 b1 k1 k4 lo hi
    go_enter Tryz.func14, Tryz.ntmps14
    go_wp2_with fail
    refine (HB.out _).mono ?_
    rintro e w1 ⟨rfl, rfl⟩
    go_wp2_with fail
    refine (HK.out _).mono ?_
    rintro e w1 ⟨rfl, rfl⟩
    go_wp2_with fail
    refine (HC.out _ H0.out).mono ?_
    rintro e w1 ⟨rfl, hb1⟩
    have H1 := hideS (H0.out.trans (hb1.mono H0.out.size))
    clear hb1
    go_wp2_with fail
    go_ret
    exact ⟨rfl, H1.out⟩
end Go.Proofs.YtphnainibdepbaaGreat
namespace Go.Proofs.YtphnainibdepbaaGreat
open Go.RowKit

theorem kown_shape {t : TypeId} {w : World} {base n : Nat} {v : Value} {xs : List Value} (h : w.ownsRow base t 1 v n xs) : ∃ q c, v = .slice q n c := by
  rcases h.2 with ⟨rfl, rfl⟩ | ⟨g, cap, cur, rfl, _⟩
  · exact ⟨none, 0, rfl⟩
  · exact ⟨_, _, rfl⟩
theorem own_apart {t t' : TypeId} {w : World} {b b' n m : Nat} {v v' : Value} {xs ys : List Value} (h : w.ownsRow b t 1 v n xs) (h' : w.ownsRow b' t' 1 v' m ys) (ht : t ≠ t') : ∀ g, v.ownBlock = some g → v'.ownBlock ≠ some g := fun g e e' => by
  rcases h.2 with ⟨rfl, _⟩ | ⟨k, cap, cur, rfl, hk, hgg, _⟩
  · cases e
  · rcases h'.2 with ⟨rfl, _⟩ | ⟨k', cap', cur', rfl, hk', hgg', _⟩
    · cases e'
    · have e1 : k = g := by simpa [Value.ownBlock] using e
      have e2 : k' = g := by simpa [Value.ownBlock] using e'
      subst e1
      subst e2
      rw [hgg] at hgg'
      injection hgg' with hgg'
      injection hgg' with _ hh
      exact ht hh
theorem own_far {t : TypeId} {w w' : World} {base n : Nat} {v : Value} {r : Option Nat} {xs : List Value} (h : w.ownsRow base t 1 v n xs) (hw : w.grownBy w' r) (hne : ∀ g, v.ownBlock = some g → r ≠ some g) : w'.ownsRow base t 1 v n xs := by
  refine ⟨h.1, ?_⟩
  rcases h.2 with hn | ⟨j, cap, cur, rfl, hk, hgg, rest⟩
  · exact .inl hn
  · exact .inr ⟨j, cap, cur, rfl, hk, by rw [hw.block j (Array.getElem?_eq_some_iff.1 hgg).1 (fun c => hne j (by simp [Value.ownBlock]) c.symm)]; exact hgg, rest⟩
end Go.Proofs.YtphnainibdepbaaGreat
namespace Go.Proofs.YtphnainibdepbaaGreat
open Go.RowKit

end Go.Proofs.YtphnainibdepbaaGreat
namespace Go.Proofs.YtphnainibdepbaaGreat
open Go.RowKit

structure SmB (w : World) (base kind : Int) (vx vy ux uy : Value) (wr : World) : Prop where
  t0 : wr.cell? ⟨w.heap.size, 0, none⟩ = some (.int .i64 base)
  t1 : wr.cell? ⟨w.heap.size, 1, none⟩ = some (.int .i64 kind)
  t2 : wr.cell? ⟨w.heap.size, 2, none⟩ = some vx
  t3 : wr.cell? ⟨w.heap.size, 3, none⟩ = some vy
  d0 : wr.cell? ⟨w.heap.size + 1, 0, none⟩ = some (.int .i64 base)
  d1 : wr.cell? ⟨w.heap.size + 1, 1, none⟩ = some (.int .i64 kind)
  d2 : wr.cell? ⟨w.heap.size + 1, 2, none⟩ = some ux
  d3 : wr.cell? ⟨w.heap.size + 1, 3, none⟩ = some uy
  bl : Below w.heap.size w wr
theorem smB_at (w : World) (base kind : Int) (vx vy ux uy : Value) : SmB w base kind vx vy ux uy ((w.alloc (.cells #[.int .i64 base, .int .i64 kind, vx, vy] 34)).alloc (.cells #[.int .i64 base, .int .i64 kind, ux, uy] 40)) :=
  ⟨by simp, by simp, by simp, by simp, by simp, by simp, by simp, by simp, ((Below.refl _ _).alloc (Nat.le_refl _) _).alloc (by simp) _⟩
theorem SmB.drewN {w wr : World} {base kind : Int} {vx vy ux uy : Value} (h : SmB w base kind vx vy ux uy wr) (q : Nat) : SmB w base kind vx vy ux uy (wr.drewN q) :=
  ⟨h.t0, h.t1, h.t2, h.t3, h.d0, h.d1, h.d2, h.d3, ⟨h.bl.os, h.bl.tape, h.bl.output, h.bl.size, h.bl.block⟩⟩
theorem TFl.drewN {w : World} {px py : Option Addr} {bx ox b2 oy : Nat} {xs : List Int} {ys : List Nat} (h : TFl w px py bx ox b2 oy xs ys) (q : Nat) : TFl (w.drewN q) px py bx ox b2 oy xs ys := ⟨⟨h.x.at_, h.x.lt, h.x.cell⟩, ⟨h.y.at_, h.y.lt, h.y.cell⟩, h.f⟩
theorem CSrcD.drewN {w : World} {pd pf : Option Addr} {bd od b2 o2 : Nat} {ds : List Int} {fs : List Nat} (h : CSrcD w pd pf bd od b2 o2 ds fs) (q : Nat) : CSrcD (w.drewN q) pd pf bd od b2 o2 ds fs := ⟨⟨h.d.at_, h.d.lt, h.d.cell⟩, ⟨h.f.at_, h.f.lt, h.f.cell⟩, h.u⟩
set_option maxRecDepth 20000 in
set_option maxHeartbeats 6400000 in
theorem ref11Same_eq (base kind : Int) (px py qx qy : Option Addr) (bx ox cx b2 oy cy b3 o3 c3 b4 o4 c4 n m : Nat) (xs : List Int) (ys : List Nat) (w : World) (hx : xs.length = n) (hy : ys.length = m) (hn : n ≤ 1000) (hm : m ≤ 1000) (hs : TFl w px py bx ox b2 oy xs ys) (hd : CSrcD w qx qy b3 o3 b4 o4 xs ys) :
    Calls Tryz.prog 9 #[.agg #[.int .i64 base, .int .i64 kind, .slice px n cx, .slice py m cy], .agg #[.int .i64 base, .int .i64 kind, .slice qx n c3, .slice qy m c4]] w fun e w' => e = .returned (.bool true) ∧ Below w.heap.size w w' := by
  have HB := hideS (smB_at w base kind (.slice px n cx) (.slice py m cy) (.slice qx n c3) (.slice qy m c4))
  obtain ⟨w2, hw2⟩ : ∃ w2, (w.alloc (.cells #[.int .i64 base, .int .i64 kind, .slice px n cx, .slice py m cy] 34)).alloc (.cells #[.int .i64 base, .int .i64 kind, .slice qx n c3, .slice qy m c4] 40) = w2 := ⟨_, rfl⟩
  rw [hw2] at HB
  have HS := hideS (hs.below HB.out.bl)
  have HD := hideS (hd.below HB.out.bl)
  have Hx := hideS hx
  have Hy := hideS hy
  clear hs hd hx hy
  obtain ⟨t0, t1, t2, t3, d0, d1, d2, d3, _⟩ := HB.out
  go_enter Tryz.func9, Tryz.ntmps9
  go_wp2_with fail
  clear hw2 t0 t1 t2 t3 d0 d1 d2 d3
  go_loopw [5] (fun i wr => ∃ (k q : Nat), k ≤ n ∧ i = .int .i64 k ∧ wr = w2.drewN q) (fun i _ => n - (intOf i).toNat)
  case atStart => exact ⟨0, 0, Nat.zero_le _, rfl, rfl⟩
  case round =>
    obtain ⟨k, q, hk, rfl, rfl⟩ := hrel
    have HBq := hideS (HB.out.drewN q)
    have HSq := hideS (HS.out.drewN q)
    have HDq := hideS (HD.out.drewN q)
    obtain ⟨wq, hwq⟩ : ∃ wq, w2.drewN q = wq := ⟨_, rfl⟩
    have HE : Hid (∀ l, ∃ q, wq.drewN l = w2.drewN q) := fun l => ⟨q + l, by rw [← hwq, World.drewN_drewN]⟩
    rw [hwq] at HBq HSq HDq ⊢
    by_cases hlt : k < n
    · obtain rfl := HSq.out.x.at_ (by rw [Hx.out]; omega)
      obtain rfl := HDq.out.d.at_ (by rw [Hx.out]; omega)
      have a1 := HSq.out.x.cell k (by rw [Hx.out]; exact hlt)
      have a2 := HDq.out.d.cell k (by rw [Hx.out]; exact hlt)
      unfold xV at a1 a2
      have t2 := HBq.out.t2
      have d2 := HBq.out.d2
      generalize xs.getD k 0 = z at *
      have l1 : (0 : Int) ≤ (k : Int) := Int.natCast_nonneg _
      have l2 : (k : Int) < (n : Int) := by omega
      clear hwq
      go_wp2_with fail
      go_quiet (fail)
      go_wp2_with fail
      go_roundw
      case rel =>
        obtain ⟨q', hq'⟩ := HE.out _
        exact ⟨k + 1, q', by omega, by simp, hq'⟩
      case measure => simp [intOf]; omega
    · obtain rfl : k = n := by omega
      have d2 := HBq.out.d2
      clear hwq
      go_wp2_with fail
      clear d2
      go_loopw [6] (fun i wr => ∃ (j q : Nat), j ≤ m ∧ i = .int .i64 j ∧ wr = wq.drewN q) (fun i _ => m - (intOf i).toNat)
      case atStart => exact ⟨0, 0, Nat.zero_le _, rfl, rfl⟩
      case round =>
        obtain ⟨j, r, hj, rfl, rfl⟩ := hrel
        have HBr := hideS (HBq.out.drewN r)
        have HSr := hideS (HSq.out.drewN r)
        have HDr := hideS (HDq.out.drewN r)
        obtain ⟨wr, hwr⟩ : ∃ wr, wq.drewN r = wr := ⟨_, rfl⟩
        have HEr : Hid (∀ l, ∃ q, wr.drewN l = wq.drewN q) := fun l => ⟨r + l, by rw [← hwr, World.drewN_drewN]⟩
        rw [hwr] at HBr HSr HDr ⊢
        by_cases hlt : j < m
        · obtain rfl := HSr.out.y.at_ (by rw [Hy.out]; omega)
          obtain rfl := HDr.out.f.at_ (by rw [Hy.out]; omega)
          have a1 := HSr.out.y.cell j (by rw [Hy.out]; exact hlt)
          have a2 := HDr.out.f.cell j (by rw [Hy.out]; exact hlt)
          unfold flV at a1
          unfold yV at a2
          have t3 := HBr.out.t3
          have d3 := HBr.out.d3
          generalize ys.getD j 0 = z at *
          have l1 : (0 : Int) ≤ (j : Int) := Int.natCast_nonneg _
          have l2 : (j : Int) < (m : Int) := by omega
          clear hwr
          go_wp2_with fail
          go_quiet ((go_at_call 12; exact Calls.quiet_of_same (bits_any _ _)))
          go_wp2_with fail
          go_roundw
          case rel =>
            obtain ⟨q', hq'⟩ := HEr.out _
            exact ⟨j + 1, q', by omega, by simp, hq'⟩
          case measure => simp [intOf]; omega
        · obtain rfl : j = m := by omega
          have d3 := HBr.out.d3
          clear hwr
          go_wp2_with fail
          go_ret
          exact ⟨rfl, HBr.out.bl⟩
end Go.Proofs.YtphnainibdepbaaGreat
