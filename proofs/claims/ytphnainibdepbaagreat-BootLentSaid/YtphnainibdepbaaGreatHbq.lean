/- What a curve's factors keep, in plain words. There is one factor of a curve at a day. The law's awake: the document's example. Quotes and interests laid into a new box, cell by cell. The contract of package boot's Check. -/
import Derived.Test.YtphnainibdepbaaGreatHbp
import Derived.Test.YtphnainibdepbaaGreatHaw
import Derived.Test.YtphnainibdepbaaGreatHbo
import Derived.Test.YtphnainibdepbaaGreatHao
namespace Go.Proofs.YtphnainibdepbaaGreat
open Go.RowKit

inductive FacO (base kind : Int) (ds : List Int) (fs : List Nat) (n : Int) : Nat → Int → Prop
  | bad (E : Int) (h : CurR base kind ds fs E) (hE : E ≠ 0) : FacO base kind ds fs n 0 E
  | ok (h : OkV base kind ds fs) (V : Nat) (E : Int) (hA : AtO kind (ctX base ds) (ctY fs) n V E) : FacO base kind ds fs n V E
theorem facO_ex (base kind : Int) (ds : List Int) (fs : List Nat) (n : Int) : ∃ V E, FacO base kind ds fs n V E := by
  obtain ⟨E, h⟩ := curR_ex base kind ds fs
  by_cases hE : E = 0
  · subst hE
    obtain ⟨V, E, hA⟩ := atO_ex kind (ctX base ds) (ctY fs) n
    exact ⟨V, E, .ok (curR_ok h) V E hA⟩
  · exact ⟨0, E, .bad E h hE⟩
theorem ctX_len (base : Int) (ds : List Int) : (ctX base ds).length = ds.length + 1 := rfl
theorem ctY_len (fs : List Nat) : (ctY fs).length = fs.length + 1 := rfl
theorem ctY_at (fs : List Nat) (i : Nat) : (ctY fs).getD i 0 = prvF fs i := by cases i <;> rfl
theorem ctY_lt {fs : List Nat} (hf : ∀ i < fs.length, fs.getD i 0 < 18446744073709551616) : ∀ i < (ctY fs).length, (ctY fs).getD i 0 < 18446744073709551616 := fun i hi => by
  cases i with
  | zero => exact (by decide : (4607182418800017408 : Nat) < 18446744073709551616)
  | succ i => exact hf i (by rw [ctY_len] at hi; omega)
theorem ctY_u {fs : List Nat} (hf : ∀ i < fs.length, fs.getD i 0 < 18446744073709551616) : ∀ i < (ctY fs).length, U64 ((ctY fs).getD i 0 : Nat) := fun i hi => u64N (ctY_lt hf i hi)
theorem cur_node {base kind : Int} {ds : List Int} {fs : List Nat} (ok : OkV base kind ds fs) {i : Nat} (hi : i ≤ ds.length) : AtO kind (ctX base ds) (ctY fs) (prvC base ds i) (prvF fs i) 0 := by
  have okT := ok.table
  have hl := ctX_len base ds
  have hx : ∀ j, (ctX base ds).getD j 0 = prvC base ds j := ctX_at base ds
  have le : ∀ j k, j ≤ k → k ≤ ds.length → prvC base ds j ≤ prvC base ds k := fun j k hjk hk => by
    rcases Nat.lt_or_eq_of_le hjk with h | h
    · have := okT.rise h (by omega)
      rw [hx, hx] at this; omega
    · rw [h]; exact Int.le_refl _
  have hk : FindR (ctX base ds) (prvC base ds i) i := ⟨by omega, by rw [hx]; exact Int.le_refl _, fun h => by
    have := okT.step h
    rw [hx] at this; exact this⟩
  have := AtO.node (kind := kind) (ys := ctY fs) i okT (.at_ okT (by rw [hx]; exact le 0 i (Nat.zero_le _) hi) (by rw [hx, hl, Nat.add_sub_cancel]; exact le i _ hi (Nat.le_refl _)) i hk (fun j hj => ⟨by omega, by rw [hx]; exact le (j + 1) i hj hi⟩)) hk (hx i)
  rw [ctY_at] at this
  exact this
theorem node_pos {base kind : Int} {ds : List Int} {fs : List Nat} (ok : OkV base kind ds fs) : ∀ i ≤ ds.length, 0 < rankI (prvF fs i : Nat) ∧ nanB (prvF fs i : Nat) = false
  | 0, _ => by
    show 0 < rankI (4607182418800017408 : Nat) ∧ nanB (4607182418800017408 : Nat) = false
    exact ⟨by decide, by decide⟩
  | i + 1, hi => by
    have h := (nodC_fine (ok.node i (by omega))).2.2.2
    show 0 < rankI (fs.getD i 0 : Nat) ∧ nanB (fs.getD i 0 : Nat) = false
    unfold ltB at h
    simp only [Bool.and_eq_true, Bool.not_eq_true', decide_eq_true_eq] at h
    have r0 : rankI 0 = 0 := by decide
    exact ⟨by rw [← r0]; exact h.2, h.1.2⟩
theorem fall_step {base kind : Int} {ds : List Int} {fs : List Nat} (ok : OkV base kind ds fs) (h : fallB fs = true) : ∀ i < ds.length, rankI (prvF fs (i + 1) : Nat) ≤ rankI (prvF fs i : Nat) := fun i hi => by
  have hR := fallR_of fs
  rw [h] at hR
  cases hR with
  | yes hy =>
    have := hy i (by rw [ok.len]; exact hi)
    have p := node_pos ok i (by omega)
    have q := node_pos ok (i + 1) (by omega)
    have e : ltB (prvF fs i : Nat) (prvF fs (i + 1) : Nat) = false := this
    rw [ltB_iff p.2 q.2, decide_eq_false_iff_not] at e
    omega
theorem fall_one {base kind : Int} {ds : List Int} {fs : List Nat} (ok : OkV base kind ds fs) (h : fallB fs = true) : ∀ i ≤ ds.length, rankI (prvF fs i : Nat) ≤ rankI (4607182418800017408 : Nat)
  | 0, _ => Int.le_refl _
  | i + 1, hi => Int.le_trans (fall_step ok h i (by omega)) (fall_one ok h i (by omega))
theorem fac_pos {base kind a : Int} {ds : List Int} {fs : List Nat} {W : Nat} (ok : OkV base kind ds fs) (hf : ∀ i < fs.length, fs.getD i 0 < 18446744073709551616) (h : AtO kind (ctX base ds) (ctY fs) a W 0) : W < 18446744073709551616 ∧ nanB (W : Nat) = false ∧ 0 < rankI (W : Nat) ∧ (fallB fs = true → rankI (W : Nat) ≤ rankI (4607182418800017408 : Nat)) := by
  obtain ⟨k, _, _, hk, h1, h2, h3, h4⟩ := atO_held h (ctY_u hf)
  rw [ctX_len] at hk h3 h4
  rw [ctY_at, ctY_at] at h3
  rw [ctY_at] at h4
  have p := node_pos ok k (by omega)
  refine ⟨h1, h2, ?_, fun hF => ?_⟩
  · by_cases hl : k + 1 < ds.length + 1
    · have := (h3 hl).1
      have q := node_pos ok (k + 1) (by omega)
      omega
    · have := h4 hl; omega
  · have p1 := fall_one ok hF k (by omega)
    by_cases hl : k + 1 < ds.length + 1
    · have := (h3 hl).2
      have q := fall_one ok hF (k + 1) (by omega)
      omega
    · have := h4 hl; omega
end Go.Proofs.YtphnainibdepbaaGreat
namespace Go.Proofs.YtphnainibdepbaaGreat
open Go.RowKit

theorem okT_tab {kind : Int} {xs : List Int} {ys : List Nat} {E : Int} (ok : OkT kind xs ys) (h : TabR kind xs ys E) : E = 0 := by
  cases h with
  | ok h => rfl
  | kind h => have := ok.k1; have := ok.k4; omega
  | len h1 h4 h => have := ok.lo; have := ok.hi; have := ok.len; omega
  | node h1 h4 lo hi len K hK bad fine => rw [ok.node K hK] at bad; cases bad
theorem okV_cur {base kind : Int} {ds : List Int} {fs : List Nat} {E : Int} (ok : OkV base kind ds fs) (h : CurR base kind ds fs E) : E = 0 := by
  cases h with
  | ok h => rfl
  | base h => have := ok.b0; have := ok.b1; omega
  | kind b0 b1 h => have := ok.k1; have := ok.k4; omega
  | len b0 b1 h1 h4 h => have := ok.lo; have := ok.hi; have := ok.len; omega
  | node b0 b1 h1 h4 lo hi len K hK bad fine => rw [ok.node K hK] at bad; cases bad
theorem findR_one {kind : Int} {xs : List Int} {ys : List Nat} {x : Int} {j k : Nat} (ok : OkT kind xs ys) (h : FindR xs x j) (h' : FindR xs x k) : j = k := by
  rcases Nat.lt_trichotomy j k with c | c | c
  · exfalso
    have a := h.gt (by have := h'.lt; omega)
    have b := h'.le
    rcases Nat.lt_or_eq_of_le (show j + 1 ≤ k from c) with d | d
    · have := ok.rise d h'.lt; omega
    · rw [← d] at b; omega
  · exact c
  · exfalso
    have a := h'.gt (by have := h.lt; omega)
    have b := h.le
    rcases Nat.lt_or_eq_of_le (show k + 1 ≤ j from c) with d | d
    · have := ok.rise d h.lt; omega
    · rw [← d] at b; omega
theorem atO_one {kind : Int} {xs : List Int} {ys : List Nat} {x : Int} {V V' : Nat} {E E' : Int} (ok : OkT kind xs ys) (h : AtO kind xs ys x V E) (h' : AtO kind xs ys x V' E') : V = V' ∧ E = E' := by
  have F : ∀ {k E}, FindO kind xs ys x k E → E ≠ 0 → E = 51 ∧ (x < xs.getD 0 0 ∨ xs.getD (xs.length - 1) 0 < x) := fun h hE => by
    cases h with
    | bad E h hE => exact absurd (okT_tab ok h) hE
    | out h hx => exact ⟨rfl, hx⟩
    | at_ => exact absurd rfl hE
  have G : ∀ {k}, FindO kind xs ys x k 0 → ¬ (x < xs.getD 0 0 ∨ xs.getD (xs.length - 1) 0 < x) := fun {k} h => by
    generalize hz : (0 : Int) = z at h
    cases h with
    | bad E h hE => exact absurd hz.symm hE
    | out h hx => cases hz
    | at_ h a b => omega
  cases h with
  | err k E h hE =>
    obtain ⟨rfl, hx⟩ := F h hE
    cases h' with
    | err k' E' h' hE' => obtain ⟨rfl, _⟩ := F h' hE'; exact ⟨rfl, rfl⟩
    | node k' _ h' => exact absurd hx (G h')
    | piece k' D i _ h' => exact absurd hx (G h')
  | node k _ h hk he =>
    cases h' with
    | err k' E' h' hE' => exact absurd (F h' hE').2 (G h)
    | node k' _ h' hk' he' => obtain rfl := findR_one ok hk hk'; exact ⟨rfl, rfl⟩
    | piece k' D i _ h' hk' he' hI => obtain rfl := findR_one ok hk hk'; exact absurd he he'
  | piece k D i _ h hk he hI =>
    cases h' with
    | err k' E' h' hE' => exact absurd (F h' hE').2 (G h)
    | node k' _ h' hk' he' => obtain rfl := findR_one ok hk hk'; exact absurd he' he
    | piece k' D' i' _ h' hk' he' hI' =>
      obtain rfl := findR_one ok hk hk'
      have hD : D = D' := by have := hI.hD; have := hI'.hD; omega
      have hi : i = i' := by have := hI.hi; have := hI'.hi; omega
      subst hD hi
      exact ⟨rfl, rfl⟩
theorem facO_one {base kind : Int} {ds : List Int} {fs : List Nat} {x : Int} {V V' : Nat} {E E' : Int} (ok : OkV base kind ds fs) (h : FacO base kind ds fs x V E) (h' : FacO base kind ds fs x V' E') : V = V' ∧ E = E' := by
  cases h with
  | bad E h hE => exact absurd (okV_cur ok h) hE
  | ok _ V E hA =>
    cases h' with
    | bad E' h' hE' => exact absurd (okV_cur ok h') hE'
    | ok _ V' E' hA' => exact atO_one ok.table hA hA'
noncomputable def facV (base kind : Int) (ds : List Int) (fs : List Nat) (x : Int) : Nat := (facO_ex base kind ds fs x).choose
noncomputable def facE (base kind : Int) (ds : List Int) (fs : List Nat) (x : Int) : Int := (facO_ex base kind ds fs x).choose_spec.choose
theorem facV_is (base kind : Int) (ds : List Int) (fs : List Nat) (x : Int) : FacO base kind ds fs x (facV base kind ds fs x) (facE base kind ds fs x) := (facO_ex base kind ds fs x).choose_spec.choose_spec
theorem facV_of {base kind : Int} {ds : List Int} {fs : List Nat} {x : Int} {V : Nat} {E : Int} (ok : OkV base kind ds fs) (h : FacO base kind ds fs x V E) : facV base kind ds fs x = V ∧ facE base kind ds fs x = E := facO_one ok (facV_is _ _ _ _ _) h
theorem fac_in {base kind : Int} {ds : List Int} {fs : List Nat} {x : Int} (ok : OkV base kind ds fs) (h0 : base ≤ x) (h1 : x ≤ ds.getD (ds.length - 1) 0) : facE base kind ds fs x = 0 := by
  have h := facV_is base kind ds fs x
  generalize facV base kind ds fs x = V at h
  generalize facE base kind ds fs x = E at h
  have lo := ok.lo
  have hl : (ctX base ds).getD ((ctX base ds).length - 1) 0 = ds.getD (ds.length - 1) 0 := by
    rw [ctX_at, ctX_len, Nat.add_sub_cancel]
    obtain ⟨m, hm⟩ : ∃ m, ds.length = m + 1 := ⟨ds.length - 1, by omega⟩
    rw [hm]; rfl
  have hf : (ctX base ds).getD 0 0 = base := rfl
  cases h with
  | bad E h hE => exact absurd (okV_cur ok h) hE
  | ok _ V E hA =>
    cases hA with
    | err k E h hE =>
      cases h with
      | bad E h hE => exact absurd (okT_tab ok.table h) hE
      | out h hx => omega
      | at_ => rfl
    | node => rfl
    | piece => rfl
theorem facV_pos {base kind : Int} {ds : List Int} {fs : List Nat} {x : Int} (ok : OkV base kind ds fs) (hf : ∀ i < fs.length, fs.getD i 0 < 18446744073709551616) (hE : facE base kind ds fs x = 0) : facV base kind ds fs x < 18446744073709551616 ∧ 0 < rankI (facV base kind ds fs x : Nat) ∧ nanB (facV base kind ds fs x : Nat) = false := by
  have h := facV_is base kind ds fs x
  rw [hE] at h
  generalize facV base kind ds fs x = V at h
  generalize hz : (0 : Int) = z at h
  cases h with
  | bad E h hE => exact absurd hz.symm hE
  | ok _ V E hA => subst hz; obtain ⟨a, b, c, _⟩ := fac_pos ok hf hA; exact ⟨a, c, b⟩
theorem facV_node {base kind : Int} {ds : List Int} {fs : List Nat} (ok : OkV base kind ds fs) {i : Nat} (hi : i < ds.length) : facV base kind ds fs (ds.getD i 0) = fs.getD i 0 ∧ facE base kind ds fs (ds.getD i 0) = 0 := facV_of ok (.ok ok _ _ (cur_node ok (i := i + 1) hi))
end Go.Proofs.YtphnainibdepbaaGreat
namespace Go.Proofs.YtphnainibdepbaaGreat
open Go.RowKit

def awX : List Int := [0, 10, 20]
def awY : List Nat := [0, 4621819117588971520, 4630826316843712512]
structure AwB (w wr : World) : Prop where
  t0 : wr.cell? ⟨w.heap.size + 1 + 1, 0, none⟩ = some (.int .i64 3)
  t1 : wr.cell? ⟨w.heap.size + 1 + 1, 1, none⟩ = some (.slice (some ⟨w.heap.size, 0, none⟩) 3 3)
  t2 : wr.cell? ⟨w.heap.size + 1 + 1, 2, none⟩ = some (.slice (some ⟨w.heap.size + 1, 0, none⟩) 3 3)
  src : TFl wr (some ⟨w.heap.size, 0, none⟩) (some ⟨w.heap.size + 1, 0, none⟩) w.heap.size 0 (w.heap.size + 1) 0 awX awY
  bl : Below w.heap.size w wr
  lt : w.heap.size + 1 + 1 < wr.heap.size
theorem AwB.step {w wr w' : World} (h : AwB w wr) (hb : Below wr.heap.size wr w') : AwB w w' :=
  ⟨(hb.cell (p := ⟨w.heap.size + 1 + 1, 0, none⟩) h.lt).trans h.t0, (hb.cell (p := ⟨w.heap.size + 1 + 1, 1, none⟩) h.lt).trans h.t1, (hb.cell (p := ⟨w.heap.size + 1 + 1, 2, none⟩) h.lt).trans h.t2, h.src.below hb, h.bl.trans (hb.mono h.bl.size), Nat.lt_of_lt_of_le h.lt hb.size⟩
end Go.Proofs.YtphnainibdepbaaGreat
namespace Go.Proofs.YtphnainibdepbaaGreat
open Go.RowKit

theorem store_f32 (a : Addr) (x : Nat) (m : Mode) (w : World) : (store a (.float .f32 x) m).run Tryz.prog w = stored Tryz.prog w a (.float .f32 x) m := run_store Tryz.prog w a _ m rfl
def zeroQ : Obj := .cells #[.int .i64 0, .int .i64 0, .int .i64 0, .int .i64 0, .float .f32 0] 30
def setQ (w : World) (g : Nat) (q : Quo) : World := ((((w.setCell ⟨g, 0, none⟩ (.int .i64 q.kind)).setCell ⟨g, 1, none⟩ (.int .i64 q.fin)).setCell ⟨g, 2, none⟩ (.int .i64 q.count)).setCell ⟨g, 3, none⟩ (.int .i64 q.n)).setCell ⟨g, 4, none⟩ (.float .f32 q.rate)
theorem zeroQ_cells (w : World) : ((w.alloc zeroQ).cell? ⟨w.heap.size, 0, none⟩ = some (.int .i64 0) ∧ (w.alloc zeroQ).cell? ⟨w.heap.size, 1, none⟩ = some (.int .i64 0) ∧ (w.alloc zeroQ).cell? ⟨w.heap.size, 2, none⟩ = some (.int .i64 0) ∧ (w.alloc zeroQ).cell? ⟨w.heap.size, 3, none⟩ = some (.int .i64 0) ∧ (w.alloc zeroQ).cell? ⟨w.heap.size, 4, none⟩ = some (.float .f32 0)) ∧ ∀ i, (w.alloc zeroQ).frozen? ⟨w.heap.size, i, none⟩ = false := by
  have h := heap_alloc_new w zeroQ
  unfold zeroQ at h
  refine ⟨⟨by unfold zeroQ; simp, by unfold zeroQ; simp, by unfold zeroQ; simp, by unfold zeroQ; simp, by unfold zeroQ; simp⟩, fun i => frozen_of_row _ _ i _ _ h⟩
theorem setQ_box (w : World) (q : Quo) : QBx w q (setQ (w.alloc zeroQ) w.heap.size q) := by
  have h := heap_alloc_new w zeroQ
  unfold zeroQ at h
  have h3 : (setQ (w.alloc zeroQ) w.heap.size q).heap[w.heap.size]? = some (.cells #[.int .i64 q.kind, .int .i64 q.fin, .int .i64 q.count, .int .i64 q.n, .float .f32 q.rate] 30) := set_blockF _ (set_blockF _ (set_blockF _ (set_blockF _ (set_blockF _ h))))
  refine ⟨?_, ?_, ?_, ?_, ?_, ((((((Below.refl _ w).alloc (Nat.le_refl _) _).setCell (p := ⟨w.heap.size, 0, none⟩) (Nat.le_refl _) _).setCell (p := ⟨w.heap.size, 1, none⟩) (Nat.le_refl _) _).setCell (p := ⟨w.heap.size, 2, none⟩) (Nat.le_refl _) _).setCell (p := ⟨w.heap.size, 3, none⟩) (Nat.le_refl _) _).setCell (p := ⟨w.heap.size, 4, none⟩) (Nat.le_refl _) _, (Array.getElem?_eq_some_iff.1 h3).1⟩
  all_goals
    simp only [World.cell?, h3, Option.isSome_none, Bool.false_eq_true, if_false]
    rfl
def zeroI : Obj := .cells #[.int .i64 0, .float .f64 0] 74
def setI (w : World) (g : Nat) (r : Itr) : World := (w.setCell ⟨g, 0, none⟩ (.int .i64 r.day)).setCell ⟨g, 1, none⟩ (.float .f64 r.am)
theorem zeroI_cells (w : World) : ((w.alloc zeroI).cell? ⟨w.heap.size, 0, none⟩ = some (.int .i64 0) ∧ (w.alloc zeroI).cell? ⟨w.heap.size, 1, none⟩ = some (.float .f64 0)) ∧ ∀ i, (w.alloc zeroI).frozen? ⟨w.heap.size, i, none⟩ = false := by
  have h := heap_alloc_new w zeroI
  unfold zeroI at h
  refine ⟨⟨by unfold zeroI; simp, by unfold zeroI; simp⟩, fun i => frozen_of_row _ _ i _ _ h⟩
structure IBx (w : World) (r : Itr) (wr : World) : Prop where
  t0 : wr.cell? ⟨w.heap.size, 0, none⟩ = some (.int .i64 r.day)
  t1 : wr.cell? ⟨w.heap.size, 1, none⟩ = some (.float .f64 r.am)
  bl : Below w.heap.size w wr
  lt : w.heap.size < wr.heap.size
theorem setI_box (w : World) (r : Itr) : IBx w r (setI (w.alloc zeroI) w.heap.size r) := by
  have h := heap_alloc_new w zeroI
  unfold zeroI at h
  have h3 : (setI (w.alloc zeroI) w.heap.size r).heap[w.heap.size]? = some (.cells #[.int .i64 r.day, .float .f64 r.am] 74) := set_blockF _ (set_blockF _ h)
  refine ⟨?_, ?_, (((Below.refl _ w).alloc (Nat.le_refl _) _).setCell (p := ⟨w.heap.size, 0, none⟩) (Nat.le_refl _) _).setCell (p := ⟨w.heap.size, 1, none⟩) (Nat.le_refl _) _, (Array.getElem?_eq_some_iff.1 h3).1⟩
  all_goals
    simp only [World.cell?, h3, Option.isSome_none, Bool.false_eq_true, if_false]
    rfl
end Go.Proofs.YtphnainibdepbaaGreat
namespace Go.Proofs.YtphnainibdepbaaGreat
open Go.RowKit

theorem chk13_frm {base kind A E K : Int} {qs : List Quo} (h : Chk13 base kind A qs E K) : ∃ F, FrmR base kind A qs.length F ∧ (F ≠ 0 ∧ E = F ∧ K = -1 ∨ F = 0 ∧ 0 ≤ base ∧ base ≤ 109572 ∧ 1 ≤ kind ∧ kind ≤ 4 ∧ A = 0 ∧ 1 ≤ qs.length ∧ qs.length ≤ 64 ∧ QuoR base qs E K) := by
  cases h with
  | base h => exact ⟨_, .base h, Or.inl ⟨by decide, rfl, rfl⟩⟩
  | kind b0 b1 h => exact ⟨_, .kind b0 b1 h, Or.inl ⟨by decide, rfl, rfl⟩⟩
  | cal b0 b1 k1 k4 h => exact ⟨_, .cal b0 b1 k1 k4 h, Or.inl ⟨h, rfl, rfl⟩⟩
  | long b0 b1 k1 k4 a0 h => exact ⟨_, .long b0 b1 k1 k4 a0 h, Or.inl ⟨by decide, rfl, rfl⟩⟩
  | none b0 b1 k1 k4 a0 h => exact ⟨_, .none b0 b1 k1 k4 a0 h, Or.inl ⟨by decide, rfl, rfl⟩⟩
  | quo b0 b1 k1 k4 a0 lo hi _ _ h => exact ⟨_, .ok b0 b1 k1 k4 a0 lo hi, Or.inr ⟨rfl, b0, b1, k1, k4, a0, lo, hi, h⟩⟩
theorem prvQ_day {base : Int} {qs : List Quo} (b0 : 0 ≤ base) (b1 : base ≤ 109572) : ∀ k, (∀ j < k, fitQ (qs.getD j quo0) (prvQ base qs j) = 0) → 0 ≤ prvQ base qs k ∧ prvQ base qs k ≤ 109572
  | 0, _ => ⟨b0, b1⟩
  | k + 1, h => by
    have h1 := prvQ_day b0 b1 k (fun j hj => h j (by omega))
    have h2 := h k (by omega)
    show 0 ≤ (qs.getD k quo0).fin ∧ (qs.getD k quo0).fin ≤ 109572
    unfold fitQ at h2
    split at h2
    · omega
    split at h2
    · omega
    split at h2
    · omega
    · omega
set_option maxHeartbeats 1600000 in
theorem bCheck_bad (base kind W A B E : Int) (v : Value) (p : Option Addr) (N cq : Nat) (w : World) (h : FrmR base kind A N E) (hE : E ≠ 0)
    (HC : Hid (∀ wx, Below w.heap.size w wx → Calls Tryz.prog 25 #[.agg #[.int .i64 W, v]] wx fun e w' => e = .returned (.tuple #[.int .i64 A, .int .i64 B]) ∧ Below wx.heap.size wx w')) :
    Calls Tryz.prog 10 #[.int .i64 base, .int .i64 kind, .agg #[.int .i64 W, v], .slice p N cq] w fun e w' => e = .returned (.tuple #[.int .i64 E, .int .i64 (-1)]) ∧ Below w.heap.size w w' := by
  have H0 := hideS (calbx w W v)
  have HF := hideS fun wx hb => bFrame_any base kind W A B E v N wx h (fun wy hy => HC.out wy ((hb : Below w.heap.size w wx).trans (hy.mono hb.size)))
  have d1 : (E != 0) = true := bne_iff_ne.2 hE
  clear h HC hE
  go_enter Tryz.func10, Tryz.ntmps10
  go_wp2_with fail
  refine (HF.out _ H0.out).mono ?_
  rintro e w1 ⟨rfl, hb1⟩
  have H1 := hideS (H0.out.trans (hb1.mono H0.out.size))
  clear hb1
  go_wp2_with fail
  go_ret2
  exact ⟨rfl, H1.out⟩

set_option maxRecDepth 20000 in
set_option maxHeartbeats 3200000 in
theorem bCheck_quo (base kind W B E K : Int) (v : Value) (pq : Option Addr) (bq oq cq N : Nat) (qs : List Quo) (w : World) (h : FrmR base kind 0 N 0) (b0 : 0 ≤ base) (b1 : base ≤ 109572) (hq : QSrc w pq bq oq qs) (hN : qs.length = N) (lo : 1 ≤ N) (hi : N ≤ 64) (hQ : QuoR base qs E K)
    (HC : Hid (∀ wx, Below w.heap.size w wx → Calls Tryz.prog 25 #[.agg #[.int .i64 W, v]] wx fun e w' => e = .returned (.tuple #[.int .i64 0, .int .i64 B]) ∧ Below wx.heap.size wx w')) :
    Calls Tryz.prog 10 #[.int .i64 base, .int .i64 kind, .agg #[.int .i64 W, v], .slice pq N cq] w fun e w' => e = .returned (.tuple #[.int .i64 E, .int .i64 K]) ∧ Below w.heap.size w w' := by
  have H0 := hideS (calbx w W v)
  have HF := hideS fun wx hb => bFrame_any base kind W 0 B 0 v N wx h (fun wy hy => HC.out wy ((hb : Below w.heap.size w wx).trans (hy.mono hb.size)))
  obtain rfl := hq.at_ (by omega)
  have HQ := hideS hq
  have HN := hideS hN
  have HQR := hideS hQ
  have HD := hideS fun k hk => prvQ_day (qs := qs) b0 b1 k hk
  clear h HC hq hN hQ b0 b1
  go_enter Tryz.func10, Tryz.ntmps10
  go_wp2_with fail
  refine (HF.out _ H0.out).mono ?_
  rintro e w1 ⟨rfl, hb1⟩
  have H1 := hideS (H0.out.trans (hb1.mono H0.out.size))
  clear hb1 HF H0
  go_wp2_with fail
  go_loopw [11, 27] (fun last i wr => ∃ (k : Nat) (lv : Int), k ≤ N ∧ i = .int .i64 k ∧ last = .int .i64 lv ∧ Hid (lv = prvQ base qs k) ∧ Hid (∀ j < k, fitQ (qs.getD j quo0) (prvQ base qs j) = 0) ∧ Hid (Below w.heap.size w wr)) (fun _ i _ => N - (intOf i).toNat)
  case atStart => exact ⟨0, base, Nat.zero_le _, rfl, rfl, rfl, fun j hj => by omega, H1⟩
  case round =>
    clear H1
    obtain ⟨k, lv, hk, rfl, rfl, HL, HFi, HB⟩ := hrel
    by_cases hlt : k < N
    · obtain ⟨c0, c1, c2, c3, c4⟩ := (HQ.out.below HB.out).cell k (by rw [HN.out]; exact hlt)
      obtain ⟨dl, dh⟩ := HD.out k HFi.out
      rw [← HL.out] at dl dh
      have HFt := hideS fun wx => bFit_any (qs.getD k quo0) lv wx dl dh
      rw [HL.out] at HFt
      obtain ⟨F, hF⟩ : ∃ F, fitQ (qs.getD k quo0) (prvQ base qs k) = F := ⟨_, rfl⟩
      rw [hF, ← HL.out] at HFt
      have HF := hideS hF
      have HQB := hideS (setQ_box wr (qs.getD k quo0))
      obtain ⟨⟨z0, z1, z2, z3, z4⟩, fz⟩ := zeroQ_cells wr
      have y0 := fz 0
      have y1 := fz 1
      have y2 := fz 2
      have y3 := fz 3
      have y4 := fz 4
      clear fz
      have HNx : Hid (prvQ base qs (k + 1) = (qs.getD k quo0).fin) := rfl
      obtain ⟨q, hq⟩ : ∃ q, qs.getD k quo0 = q := ⟨_, rfl⟩
      rw [hq] at HFt HQB HNx c0 c1 c2 c3 c4
      clear hF dl dh hq
      obtain ⟨qk, qf, qc, qn, qr⟩ := q
      dsimp only at *
      obtain ⟨w2, hw2⟩ : ∃ w2, wr.alloc zeroQ = w2 := ⟨_, rfl⟩
      rw [hw2] at z0 z1 z2 z3 z4 y0 y1 y2 y3 y4 HQB
      unfold zeroQ at hw2
      obtain ⟨w3, hw3⟩ : ∃ w3, setQ w2 wr.heap.size ⟨qk, qf, qc, qn, qr⟩ = w3 := ⟨_, rfl⟩
      rw [hw3] at HQB
      unfold setQ at hw3
      dsimp only at hw3
      have t0 := HQB.out.t0
      have t1 := HQB.out.t1
      have t2 := HQB.out.t2
      have t3 := HQB.out.t3
      have t4 := HQB.out.t4
      dsimp only at t0 t1 t2 t3 t4
      have hst := store_f32
      by_cases hz : F = 0
      · have HFi2 : Hid (∀ j < k + 1, fitQ (qs.getD j quo0) (prvQ base qs j) = 0) := fun j hj => by
          by_cases c : j < k
          · exact HFi.out j c
          · obtain rfl : j = k := by omega
            rw [HF.out]; exact hz
        subst hz
        go_wp2_with fail
        clear hst hw2 hw3 z0 z1 z2 z3 z4 y0 y1 y2 y3 y4 t0 t1 t2 t3 t4
        refine (HFt.out _).mono ?_
        rintro e w4 ⟨rfl, hb2⟩
        have HB2 := hideS (HB.out.trans ((HQB.out.step hb2).bl.mono HB.out.size))
        have g1 := (HQB.out.step hb2).t1
        clear hb2 c0 c1 c2 c3 c4
        go_wp2_with fail
        go_roundw
        case rel => exact ⟨k + 1, qf, by omega, by simp, rfl, HNx.out.symm, HFi2, HB2⟩
        case measure => simp [intOf]; omega
      · have hEK : F = E ∧ (k : Int) = K := quoR_unique (.bad k (by rw [HN.out]; exact hlt) F HF.out hz HFi.out) HQR.out
        have HEK := hideS hEK
        have d7 : (F != 0) = true := bne_iff_ne.2 hz
        clear hz hEK
        go_wp2_with fail
        clear hst hw2 hw3 z0 z1 z2 z3 z4 y0 y1 y2 y3 y4 t0 t1 t2 t3 t4
        refine (HFt.out _).mono ?_
        rintro e w4 ⟨rfl, hb2⟩
        have HB2 := hideS (HB.out.trans ((HQB.out.step hb2).bl.mono HB.out.size))
        clear hb2
        go_wp2_with fail
        go_ret2
        obtain ⟨rfl, rfl⟩ := HEK.out
        exact ⟨rfl, HB2.out⟩
    · obtain rfl : k = N := by omega
      have hEK : (0 : Int) = E ∧ (0 : Int) = K := quoR_unique (.fine (by rw [HN.out]; exact HFi.out)) HQR.out
      have HEK := hideS hEK
      clear hEK
      go_wp2_with fail
      go_ret2
      obtain ⟨rfl, rfl⟩ := HEK.out
      exact ⟨rfl, HB.out⟩
theorem bCheck_any (base kind W A B E K : Int) (p pq : Option Addr) (b off c bq oq cq : Nat) (rs : List Rul) (qs : List Quo) (w : World) (hA : ChkR W rs A B) (hs : RSrc w p b off rs) (hl : rs.length ≤ 9223372036854775807) (hq : QSrc w pq bq oq qs) (hE : Chk13 base kind A qs E K) :
    Calls Tryz.prog 10 #[.int .i64 base, .int .i64 kind, .agg #[.int .i64 W, .slice p rs.length c], .slice pq qs.length cq] w fun e w' => e = .returned (.tuple #[.int .i64 E, .int .i64 K]) ∧ Below w.heap.size w w' := by
  have HC : Hid (∀ wx, Below w.heap.size w wx → Calls Tryz.prog 25 #[.agg #[.int .i64 W, .slice p rs.length c]] wx fun e w' => e = .returned (.tuple #[.int .i64 A, .int .i64 B]) ∧ Below wx.heap.size wx w') := fun wx hb => check_any W p b off c rs A B wx hA (hs.below hb) hl
  obtain ⟨F, hF, ⟨h0, rfl, rfl⟩ | ⟨rfl, b0, b1, k1, k4, rfl, lo, hi, hQ⟩⟩ := chk13_frm hE
  · exact bCheck_bad base kind W A B E _ pq qs.length cq w hF h0 HC
  · exact bCheck_quo base kind W B E K _ pq bq oq cq qs.length qs w hF b0 b1 hq rfl lo hi hQ HC
end Go.Proofs.YtphnainibdepbaaGreat
