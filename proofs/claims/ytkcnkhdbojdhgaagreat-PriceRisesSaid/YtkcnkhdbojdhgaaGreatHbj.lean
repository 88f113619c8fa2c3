/- What a curve's factors keep, in plain words. There is one factor of a curve at a day. What flows are worth on a curve, in plain words. The law's awake: the document's example. Worths in memory; the contracts of Worth's Plus, Turned, Same, and of Nothing. -/
import Derived.Test.YtkcnkhdbojdhgaaGreatHbi
import Derived.Test.YtkcnkhdbojdhgaaGreatHam
import Derived.Test.YtkcnkhdbojdhgaaGreatJfB
import Derived.Test.YtkcnkhdbojdhgaaGreatHbd
import Derived.Test.YtkcnkhdbojdhgaaGreatHbe
import Derived.Deep.RegionHeld3
namespace Go.Proofs.YtkcnkhdbojdhgaaGreat
open Go.RowKit

inductive FacO (base kind : Int) (ds : List Int) (fs : List Nat) (n : Int) : Nat → Int → Prop
  | bad (E : Int) (h : CurR base kind ds fs E) (hE : E ≠ 0) : FacO base kind ds fs n 0 E
  | ok (h : OkV base kind ds fs) (V : Nat) (E : Int) (hA : AtO kind (ctX base ds) (ctY fs) n V E) : FacO base kind ds fs n V E
theorem facO_ex (base kind : Int) (ds : List Int) (fs : List Nat) (n : Int) : ∃ V E, FacO base kind ds fs n V E := by
  obtain ⟨E, h⟩ := curR_ex base kind ds fs
  by_cases hE : E = 0
  · subst hE
    obtain ⟨V, E, hA⟩ := atO_ex kind (ctX base ds) (ctY fs) n
    exact ⟨V, E, .ok (curR_ok h) V E hA⟩
  · exact ⟨0, E, .bad E h hE⟩
theorem ctX_len (base : Int) (ds : List Int) : (ctX base ds).length = ds.length + 1 := rfl
theorem ctY_len (fs : List Nat) : (ctY fs).length = fs.length + 1 := rfl
theorem ctY_at (fs : List Nat) (i : Nat) : (ctY fs).getD i 0 = prvF fs i := by cases i <;> rfl
theorem ctY_lt {fs : List Nat} (hf : ∀ i < fs.length, fs.getD i 0 < 18446744073709551616) : ∀ i < (ctY fs).length, (ctY fs).getD i 0 < 18446744073709551616 := fun i hi => by
  cases i with
  | zero => exact (by decide : (4607182418800017408 : Nat) < 18446744073709551616)
  | succ i => exact hf i (by rw [ctY_len] at hi; omega)
theorem ctY_u {fs : List Nat} (hf : ∀ i < fs.length, fs.getD i 0 < 18446744073709551616) : ∀ i < (ctY fs).length, U64 ((ctY fs).getD i 0 : Nat) := fun i hi => u64N (ctY_lt hf i hi)
theorem cur_node {base kind : Int} {ds : List Int} {fs : List Nat} (ok : OkV base kind ds fs) {i : Nat} (hi : i ≤ ds.length) : AtO kind (ctX base ds) (ctY fs) (prvC base ds i) (prvF fs i) 0 := by
  have okT := ok.table
  have hl := ctX_len base ds
  have hx : ∀ j, (ctX base ds).getD j 0 = prvC base ds j := ctX_at base ds
  have le : ∀ j k, j ≤ k → k ≤ ds.length → prvC base ds j ≤ prvC base ds k := fun j k hjk hk => by
    rcases Nat.lt_or_eq_of_le hjk with h | h
    · have := okT.rise h (by omega)
      rw [hx, hx] at this; omega
    · rw [h]; exact Int.le_refl _
  have hk : FindR (ctX base ds) (prvC base ds i) i := ⟨by omega, by rw [hx]; exact Int.le_refl _, fun h => by
    have := okT.step h
    rw [hx] at this; exact this⟩
  have := AtO.node (kind := kind) (ys := ctY fs) i okT (.at_ okT (by rw [hx]; exact le 0 i (Nat.zero_le _) hi) (by rw [hx, hl, Nat.add_sub_cancel]; exact le i _ hi (Nat.le_refl _)) i hk (fun j hj => ⟨by omega, by rw [hx]; exact le (j + 1) i hj hi⟩)) hk (hx i)
  rw [ctY_at] at this
  exact this
theorem node_pos {base kind : Int} {ds : List Int} {fs : List Nat} (ok : OkV base kind ds fs) : ∀ i ≤ ds.length, 0 < rankI (prvF fs i : Nat) ∧ nanB (prvF fs i : Nat) = false
  | 0, _ => by
    show 0 < rankI (4607182418800017408 : Nat) ∧ nanB (4607182418800017408 : Nat) = false
    exact ⟨by decide, by decide⟩
  | i + 1, hi => by
    have h := (nodC_fine (ok.node i (by omega))).2.2.2
    show 0 < rankI (fs.getD i 0 : Nat) ∧ nanB (fs.getD i 0 : Nat) = false
    unfold ltB at h
    simp only [Bool.and_eq_true, Bool.not_eq_true', decide_eq_true_eq] at h
    have r0 : rankI 0 = 0 := by decide
    exact ⟨by rw [← r0]; exact h.2, h.1.2⟩
theorem fall_step {base kind : Int} {ds : List Int} {fs : List Nat} (ok : OkV base kind ds fs) (h : fallB fs = true) : ∀ i < ds.length, rankI (prvF fs (i + 1) : Nat) ≤ rankI (prvF fs i : Nat) := fun i hi => by
  have hR := fallR_of fs
  rw [h] at hR
  cases hR with
  | yes hy =>
    have := hy i (by rw [ok.len]; exact hi)
    have p := node_pos ok i (by omega)
    have q := node_pos ok (i + 1) (by omega)
    have e : ltB (prvF fs i : Nat) (prvF fs (i + 1) : Nat) = false := this
    rw [ltB_iff p.2 q.2, decide_eq_false_iff_not] at e
    omega
theorem fall_one {base kind : Int} {ds : List Int} {fs : List Nat} (ok : OkV base kind ds fs) (h : fallB fs = true) : ∀ i ≤ ds.length, rankI (prvF fs i : Nat) ≤ rankI (4607182418800017408 : Nat)
  | 0, _ => Int.le_refl _
  | i + 1, hi => Int.le_trans (fall_step ok h i (by omega)) (fall_one ok h i (by omega))
theorem fac_pos {base kind a : Int} {ds : List Int} {fs : List Nat} {W : Nat} (ok : OkV base kind ds fs) (hf : ∀ i < fs.length, fs.getD i 0 < 18446744073709551616) (h : AtO kind (ctX base ds) (ctY fs) a W 0) : W < 18446744073709551616 ∧ nanB (W : Nat) = false ∧ 0 < rankI (W : Nat) ∧ (fallB fs = true → rankI (W : Nat) ≤ rankI (4607182418800017408 : Nat)) := by
  obtain ⟨k, _, _, hk, h1, h2, h3, h4⟩ := atO_held h (ctY_u hf)
  rw [ctX_len] at hk h3 h4
  rw [ctY_at, ctY_at] at h3
  rw [ctY_at] at h4
  have p := node_pos ok k (by omega)
  refine ⟨h1, h2, ?_, fun hF => ?_⟩
  · by_cases hl : k + 1 < ds.length + 1
    · have := (h3 hl).1
      have q := node_pos ok (k + 1) (by omega)
      omega
    · have := h4 hl; omega
  · have p1 := fall_one ok hF k (by omega)
    by_cases hl : k + 1 < ds.length + 1
    · have := (h3 hl).2
      have q := fall_one ok hF (k + 1) (by omega)
      omega
    · have := h4 hl; omega
end Go.Proofs.YtkcnkhdbojdhgaaGreat
namespace Go.Proofs.YtkcnkhdbojdhgaaGreat
open Go.RowKit

theorem okT_tab {kind : Int} {xs : List Int} {ys : List Nat} {E : Int} (ok : OkT kind xs ys) (h : TabR kind xs ys E) : E = 0 := by
  cases h with
  | ok h => rfl
  | kind h => have := ok.k1; have := ok.k4; omega
  | len h1 h4 h => have := ok.lo; have := ok.hi; have := ok.len; omega
  | node h1 h4 lo hi len K hK bad fine => rw [ok.node K hK] at bad; cases bad
theorem okV_cur {base kind : Int} {ds : List Int} {fs : List Nat} {E : Int} (ok : OkV base kind ds fs) (h : CurR base kind ds fs E) : E = 0 := by
  cases h with
  | ok h => rfl
  | base h => have := ok.b0; have := ok.b1; omega
  | kind b0 b1 h => have := ok.k1; have := ok.k4; omega
  | len b0 b1 h1 h4 h => have := ok.lo; have := ok.hi; have := ok.len; omega
  | node b0 b1 h1 h4 lo hi len K hK bad fine => rw [ok.node K hK] at bad; cases bad
theorem findR_one {kind : Int} {xs : List Int} {ys : List Nat} {x : Int} {j k : Nat} (ok : OkT kind xs ys) (h : FindR xs x j) (h' : FindR xs x k) : j = k := by
  rcases Nat.lt_trichotomy j k with c | c | c
  · exfalso
    have a := h.gt (by have := h'.lt; omega)
    have b := h'.le
    rcases Nat.lt_or_eq_of_le (show j + 1 ≤ k from c) with d | d
    · have := ok.rise d h'.lt; omega
    · rw [← d] at b; omega
  · exact c
  · exfalso
    have a := h'.gt (by have := h.lt; omega)
    have b := h.le
    rcases Nat.lt_or_eq_of_le (show k + 1 ≤ j from c) with d | d
    · have := ok.rise d h.lt; omega
    · rw [← d] at b; omega
theorem atO_one {kind : Int} {xs : List Int} {ys : List Nat} {x : Int} {V V' : Nat} {E E' : Int} (ok : OkT kind xs ys) (h : AtO kind xs ys x V E) (h' : AtO kind xs ys x V' E') : V = V' ∧ E = E' := by
  have F : ∀ {k E}, FindO kind xs ys x k E → E ≠ 0 → E = 51 ∧ (x < xs.getD 0 0 ∨ xs.getD (xs.length - 1) 0 < x) := fun h hE => by
    cases h with
    | bad E h hE => exact absurd (okT_tab ok h) hE
    | out h hx => exact ⟨rfl, hx⟩
    | at_ => exact absurd rfl hE
  have G : ∀ {k}, FindO kind xs ys x k 0 → ¬ (x < xs.getD 0 0 ∨ xs.getD (xs.length - 1) 0 < x) := fun {k} h => by
    generalize hz : (0 : Int) = z at h
    cases h with
    | bad E h hE => exact absurd hz.symm hE
    | out h hx => cases hz
    | at_ h a b => omega
  cases h with
  | err k E h hE =>
    obtain ⟨rfl, hx⟩ := F h hE
    cases h' with
    | err k' E' h' hE' => obtain ⟨rfl, _⟩ := F h' hE'; exact ⟨rfl, rfl⟩
    | node k' _ h' => exact absurd hx (G h')
    | piece k' D i _ h' => exact absurd hx (G h')
  | node k _ h hk he =>
    cases h' with
    | err k' E' h' hE' => exact absurd (F h' hE').2 (G h)
    | node k' _ h' hk' he' => obtain rfl := findR_one ok hk hk'; exact ⟨rfl, rfl⟩
    | piece k' D i _ h' hk' he' hI => obtain rfl := findR_one ok hk hk'; exact absurd he he'
  | piece k D i _ h hk he hI =>
    cases h' with
    | err k' E' h' hE' => exact absurd (F h' hE').2 (G h)
    | node k' _ h' hk' he' => obtain rfl := findR_one ok hk hk'; exact absurd he' he
    | piece k' D' i' _ h' hk' he' hI' =>
      obtain rfl := findR_one ok hk hk'
      have hD : D = D' := by have := hI.hD; have := hI'.hD; omega
      have hi : i = i' := by have := hI.hi; have := hI'.hi; omega
      subst hD hi
      exact ⟨rfl, rfl⟩
theorem facO_one {base kind : Int} {ds : List Int} {fs : List Nat} {x : Int} {V V' : Nat} {E E' : Int} (ok : OkV base kind ds fs) (h : FacO base kind ds fs x V E) (h' : FacO base kind ds fs x V' E') : V = V' ∧ E = E' := by
  cases h with
  | bad E h hE => exact absurd (okV_cur ok h) hE
  | ok _ V E hA =>
    cases h' with
    | bad E' h' hE' => exact absurd (okV_cur ok h') hE'
    | ok _ V' E' hA' => exact atO_one ok.table hA hA'
noncomputable def facV (base kind : Int) (ds : List Int) (fs : List Nat) (x : Int) : Nat := (facO_ex base kind ds fs x).choose
noncomputable def facE (base kind : Int) (ds : List Int) (fs : List Nat) (x : Int) : Int := (facO_ex base kind ds fs x).choose_spec.choose
theorem facV_is (base kind : Int) (ds : List Int) (fs : List Nat) (x : Int) : FacO base kind ds fs x (facV base kind ds fs x) (facE base kind ds fs x) := (facO_ex base kind ds fs x).choose_spec.choose_spec
theorem facV_of {base kind : Int} {ds : List Int} {fs : List Nat} {x : Int} {V : Nat} {E : Int} (ok : OkV base kind ds fs) (h : FacO base kind ds fs x V E) : facV base kind ds fs x = V ∧ facE base kind ds fs x = E := facO_one ok (facV_is _ _ _ _ _) h
theorem facV_pos {base kind : Int} {ds : List Int} {fs : List Nat} {x : Int} (ok : OkV base kind ds fs) (hf : ∀ i < fs.length, fs.getD i 0 < 18446744073709551616) (hE : facE base kind ds fs x = 0) : facV base kind ds fs x < 18446744073709551616 ∧ 0 < rankI (facV base kind ds fs x : Nat) ∧ nanB (facV base kind ds fs x : Nat) = false := by
  have h := facV_is base kind ds fs x
  rw [hE] at h
  generalize facV base kind ds fs x = V at h
  generalize hz : (0 : Int) = z at h
  cases h with
  | bad E h hE => exact absurd hz.symm hE
  | ok _ V E hA => subst hz; obtain ⟨a, b, c, _⟩ := fac_pos ok hf hA; exact ⟨a, c, b⟩
theorem rank_le_sz (u : Int) : rankI u ≤ szI u := by
  have : 0 ≤ szI u := by unfold szI; omega
  unfold rankI; split
  · omega
  · split <;> omega
theorem node_fin {base kind : Int} {ds : List Int} {fs : List Nat} (ok : OkV base kind ds fs) : ∀ i ≤ ds.length, rankI (prvF fs i : Nat) < 9218868437227405312
  | 0, _ => by
    show rankI (4607182418800017408 : Nat) < 9218868437227405312
    decide
  | i + 1, hi => by
    have h := (nodC_fine (ok.node i (by omega))).2.2.1
    show rankI (fs.getD i 0 : Nat) < 9218868437227405312
    unfold finB at h
    rw [decide_eq_true_eq] at h
    have := rank_le_sz (fs.getD i 0 : Nat)
    omega
theorem fin_of_rank {u : Int} (hn : nanB u = false) (h0 : 0 < rankI u) (h : rankI u < 9218868437227405312) : finB u = true := by
  unfold finB
  rw [decide_eq_true_eq]
  have hs : 0 ≤ szI u := by unfold szI; omega
  unfold rankI at h0 h
  rw [hn] at h0 h
  simp only [Bool.false_eq_true, if_false] at h0 h
  split at h0
  · omega
  · rename_i hc
    rw [if_neg hc] at h; exact h
theorem fac_fin {base kind a : Int} {ds : List Int} {fs : List Nat} {W : Nat} (ok : OkV base kind ds fs) (hf : ∀ i < fs.length, fs.getD i 0 < 18446744073709551616) (h : AtO kind (ctX base ds) (ctY fs) a W 0) : finB (W : Nat) = true := by
  obtain ⟨p1, p2, p3, _⟩ := fac_pos ok hf h
  obtain ⟨k, _, _, hk, h1, h2, h3, h4⟩ := atO_held h (ctY_u hf)
  rw [ctX_len] at hk h3 h4
  rw [ctY_at, ctY_at] at h3
  rw [ctY_at] at h4
  refine fin_of_rank p2 p3 ?_
  have q1 := node_fin ok k (by omega)
  by_cases hl : k + 1 < ds.length + 1
  · have := (h3 hl).2
    have q2 := node_fin ok (k + 1) (by omega)
    omega
  · have := h4 hl; omega
theorem facV_fin {base kind : Int} {ds : List Int} {fs : List Nat} {x : Int} (ok : OkV base kind ds fs) (hf : ∀ i < fs.length, fs.getD i 0 < 18446744073709551616) (hE : facE base kind ds fs x = 0) : finB (facV base kind ds fs x : Nat) = true := by
  have h := facV_is base kind ds fs x
  rw [hE] at h
  generalize facV base kind ds fs x = V at h
  generalize hz : (0 : Int) = z at h
  cases h with
  | bad E h hE => exact absurd hz.symm hE
  | ok _ V E hA => subst hz; exact fac_fin ok hf hA
end Go.Proofs.YtkcnkhdbojdhgaaGreat
namespace Go.Proofs.YtkcnkhdbojdhgaaGreat
open Go.RowKit

structure Cv where
  base : Int
  kind : Int
  ds : List Int
  fs : List Nat
noncomputable def Cv.V (c : Cv) (x : Int) : Nat := facV c.base c.kind c.ds c.fs x
noncomputable def Cv.E (c : Cv) (x : Int) : Int := facE c.base c.kind c.ds c.fs x
def Cv.Ok (c : Cv) : Prop := OkV c.base c.kind c.ds c.fs
def Cv.Chk (c : Cv) (E : Int) : Prop := CurR c.base c.kind c.ds c.fs E
def Cv.Fit (c : Cv) : Prop := ∀ i < c.fs.length, c.fs.getD i 0 < 18446744073709551616
theorem curR_one {base kind : Int} {ds : List Int} {fs : List Nat} {E E' : Int} (h : CurR base kind ds fs E) (h' : CurR base kind ds fs E') : E = E' := by
  cases h with
  | ok h => exact (okV_cur h h').symm
  | base h => cases h' with
    | base _ => rfl
    | ok h' => have := h'.b0; have := h'.b1; omega
    | kind b0 b1 _ => omega
    | len b0 b1 _ _ _ => omega
    | node b0 b1 _ _ _ _ _ _ _ _ _ => omega
  | kind b0 b1 h => cases h' with
    | base _ => omega
    | ok h' => have := h'.k1; have := h'.k4; omega
    | kind _ _ _ => rfl
    | len _ _ h1 h4 _ => omega
    | node _ _ h1 h4 _ _ _ _ _ _ _ => omega
  | len b0 b1 h1 h4 h => cases h' with
    | base _ => omega
    | ok h' => have := h'.lo; have := h'.hi; have := h'.len; omega
    | kind _ _ _ => omega
    | len _ _ _ _ _ => rfl
    | node _ _ _ _ _ _ _ _ _ _ _ => rfl
  | node b0 b1 h1 h4 lo hi len K hK bad fine => cases h' with
    | base _ => omega
    | ok h' => rw [h'.node K hK] at bad; cases bad
    | kind _ _ _ => omega
    | len _ _ _ _ _ => rfl
    | node _ _ _ _ _ _ _ _ _ _ _ => rfl

def tkB (cur base : Int) (f : Flw) : Bool := decide (f.cur = cur) && decide (base ≤ f.day)
inductive VisR (l : List Flw) (cur : Int) (c : Cv) : Int → Prop
  | flow (E K : Int) (h : ChkF l E K) (hE : E ≠ 0) : VisR l cur c E
  | cur (h : ChkF l 0 0) (hc : ¬ (1 ≤ cur ∧ cur ≤ 8)) : VisR l cur c 140
  | curve (h : ChkF l 0 0) (hc : 1 ≤ cur ∧ cur ≤ 8) (E : Int) (hC : c.Chk E) (hE : E ≠ 0) : VisR l cur c E
  | fac (h : ChkF l 0 0) (hc : 1 ≤ cur ∧ cur ≤ 8) (ok : c.Ok) (K : Nat) (hK : K < l.length) (tk : tkB cur c.base (l.getD K flw0) = true) (E : Int) (he : c.E (l.getD K flw0).day = E) (hE : E ≠ 0) (fine : ∀ i < K, tkB cur c.base (l.getD i flw0) = true → c.E (l.getD i flw0).day = 0) : VisR l cur c E
  | ok (h : ChkF l 0 0) (hc : 1 ≤ cur ∧ cur ≤ 8) (ok : c.Ok) (fine : ∀ i < l.length, tkB cur c.base (l.getD i flw0) = true → c.E (l.getD i flw0).day = 0) : VisR l cur c 0
theorem chkF_zero {l : List Flw} {K : Int} (h : ChkF l 0 K) : K = 0 := by
  generalize hz : (0 : Int) = z at h
  cases h with
  | many h => cases hz
  | fine => rfl
  | bad hl k hk e he h0 h => exact absurd hz.symm h0
theorem vis_from (l : List Flw) (cur : Int) (c : Cv) : ∀ n, (∀ i < n, tkB cur c.base (l.getD i flw0) = true → c.E (l.getD i flw0).day = 0) ∨ ∃ k < n, tkB cur c.base (l.getD k flw0) = true ∧ c.E (l.getD k flw0).day ≠ 0 ∧ ∀ i < k, tkB cur c.base (l.getD i flw0) = true → c.E (l.getD i flw0).day = 0
  | 0 => Or.inl (fun i hi => by omega)
  | n + 1 => by
    rcases vis_from l cur c n with h | ⟨k, hk, ht, h0, h⟩
    · by_cases d : tkB cur c.base (l.getD n flw0) = true ∧ c.E (l.getD n flw0).day ≠ 0
      · exact Or.inr ⟨n, by omega, d.1, d.2, h⟩
      · refine Or.inl (fun i hi ht => ?_)
        by_cases d2 : i < n
        · exact h i d2 ht
        · obtain rfl : i = n := by omega
          exact Classical.byContradiction fun hn => d ⟨ht, hn⟩
    · exact Or.inr ⟨k, by omega, ht, h0, h⟩
theorem visR_ex (l : List Flw) (cur : Int) (c : Cv) : ∃ E, VisR l cur c E := by
  obtain ⟨e, k, h⟩ := chkF_ex l
  by_cases he : e = 0
  · subst he
    obtain rfl := chkF_zero h
    by_cases hc : 1 ≤ cur ∧ cur ≤ 8
    · obtain ⟨E, hE⟩ := curR_ex c.base c.kind c.ds c.fs
      by_cases hz : E = 0
      · subst hz
        rcases vis_from l cur c l.length with hf | ⟨K, hK, ht, h0, hf⟩
        · exact ⟨0, .ok h hc (curR_ok hE) hf⟩
        · exact ⟨_, .fac h hc (curR_ok hE) K hK ht _ rfl h0 hf⟩
      · exact ⟨E, .curve h hc E hE hz⟩
    · exact ⟨140, .cur h hc⟩
  · exact ⟨e, .flow e k h he⟩
theorem visR_one {l : List Flw} {cur : Int} {c : Cv} {E E' : Int} (h : VisR l cur c E) (h' : VisR l cur c E') : E = E' := by
  cases h with
  | flow E K h hE => cases h' with
    | flow E' K' h' hE' => exact (chkF_unique h h').1
    | cur h' _ => exact absurd (chkF_unique h h').1 hE
    | curve h' _ _ _ _ => exact absurd (chkF_unique h h').1 hE
    | fac h' _ _ _ _ _ _ _ _ _ => exact absurd (chkF_unique h h').1 hE
    | ok h' _ _ _ => exact absurd (chkF_unique h h').1 hE
  | cur h hc => cases h' with
    | flow E' K' h' hE' => exact absurd (chkF_unique h' h).1 hE'
    | cur _ _ => rfl
    | curve _ hc' _ _ _ => exact absurd hc' hc
    | fac _ hc' _ _ _ _ _ _ _ _ => exact absurd hc' hc
    | ok _ hc' _ _ => exact absurd hc' hc
  | curve h hc E hC hE => cases h' with
    | flow E' K' h' hE' => exact absurd (chkF_unique h' h).1 hE'
    | cur _ hc' => exact absurd hc hc'
    | curve _ _ E' hC' _ => exact curR_one hC hC'
    | fac _ _ ok _ _ _ _ _ _ _ => exact absurd (okV_cur ok hC) hE
    | ok _ _ ok _ => exact absurd (okV_cur ok hC) hE
  | fac h hc ok K hK tk E he hE fine => cases h' with
    | flow E' K' h' hE' => exact absurd (chkF_unique h' h).1 hE'
    | cur _ hc' => exact absurd hc hc'
    | curve _ _ E' hC' hE' => exact absurd (okV_cur ok hC') hE'
    | fac _ _ _ K' hK' tk' E' he' hE' fine' =>
      rcases Nat.lt_trichotomy K K' with d | d | d
      · exact absurd (he.symm.trans (fine' K d tk)) hE
      · subst d; exact he.symm.trans he'
      · exact absurd (he'.symm.trans (fine K' d tk')) hE'
    | ok _ _ _ fine' => exact absurd (he.symm.trans (fine' K hK tk)) hE
  | ok h hc ok fine => cases h' with
    | flow E' K' h' hE' => exact absurd (chkF_unique h' h).1 hE'
    | cur _ hc' => exact absurd hc hc'
    | curve _ _ E' hC' hE' => exact absurd (okV_cur ok hC') hE'
    | fac _ _ _ K' hK' tk' E' he' hE' fine' => exact absurd (he'.symm.trans (fine K' hK' tk')) hE'
    | ok _ _ _ _ => rfl
structure FineP (l : List Flw) (cur : Int) (c : Cv) : Prop where
  len : l.length ≤ 4096
  bad : ∀ f ∈ l, badF f = 0
  cu : 1 ≤ cur ∧ cur ≤ 8
  ok : c.Ok
  fac : ∀ f ∈ l, tkB cur c.base f = true → c.E f.day = 0
theorem getD_memF {l : List Flw} {i : Nat} (h : i < l.length) : l.getD i flw0 ∈ l := by
  have : l.getD i flw0 = l[i] := by simp [List.getD, List.getElem?_eq_getElem h]
  rw [this]; exact List.getElem_mem h
theorem mem_getDF {l : List Flw} {f : Flw} (h : f ∈ l) : ∃ i, i < l.length ∧ l.getD i flw0 = f := by
  obtain ⟨i, hi, e⟩ := List.getElem_of_mem h
  exact ⟨i, hi, by simp [List.getD, List.getElem?_eq_getElem hi, e]⟩
theorem visR_fine {l : List Flw} {cur : Int} {c : Cv} (h : VisR l cur c 0) : FineP l cur c := by
  generalize hz : (0 : Int) = z at h
  cases h with
  | flow E K h hE => exact absurd hz.symm hE
  | cur => cases hz
  | curve h hc E hC hE => exact absurd hz.symm hE
  | fac h hc ok K hK tk E he hE fine => exact absurd hz.symm hE
  | ok h hc ok fine =>
    have hF : l.length ≤ 4096 ∧ ∀ i < l.length, badF (l.getD i flw0) = 0 := by
      generalize hz : (0 : Int) = z at h
      cases h with
      | fine hl h => exact ⟨hl, h⟩
      | bad hl k hk e he h0 h => exact absurd hz.symm h0
    refine ⟨hF.1, fun f hf => ?_, hc, ok, fun f hf ht => ?_⟩
    · obtain ⟨i, hi, rfl⟩ := mem_getDF hf
      exact hF.2 i hi
    · obtain ⟨i, hi, rfl⟩ := mem_getDF hf
      exact fine i hi ht
theorem fine_visR {l : List Flw} {cur : Int} {c : Cv} (h : FineP l cur c) : VisR l cur c 0 :=
  .ok (.fine h.len (fun _ hi => h.bad _ (getD_memF hi))) h.cu h.ok (fun _ hi ht => h.fac _ (getD_memF hi) ht)
noncomputable def prI (c : Cv) (f : Flw) : Int := (A.prodS (f.am : Int) (c.V f.day : Int)).N
noncomputable def ctI (cur : Int) (c : Cv) (f : Flw) : Int := if tkB cur c.base f = true then prI c f else 0
noncomputable def wsI (cur : Int) (c : Cv) : List Flw → Int
  | [] => 0
  | f :: l => ctI cur c f + wsI cur c l
theorem wsI_append (cur : Int) (c : Cv) : ∀ a b : List Flw, wsI cur c (a ++ b) = wsI cur c a + wsI cur c b
  | [], b => by simp [wsI]
  | f :: a, b => by simp only [List.cons_append, wsI]; rw [wsI_append cur c a b, Int.add_assoc]
theorem wsI_perm {cur : Int} {c : Cv} {a b : List Flw} (h : a.Perm b) : wsI cur c a = wsI cur c b := by
  induction h with
  | nil => rfl
  | cons x _ ih => simp only [wsI]; rw [ih]
  | swap x y l => simp only [wsI]; omega
  | trans _ _ ih1 ih2 => exact ih1.trans ih2
theorem take_nextF {l : List Flw} {k : Nat} (hk : k < l.length) : l.take (k + 1) = l.take k ++ [l.getD k flw0] := by
  have : l.getD k flw0 = l[k] := by simp [List.getD, List.getElem?_eq_getElem hk]
  rw [this, List.take_succ_eq_append_getElem hk]
theorem wsI_next {cur : Int} {c : Cv} {l : List Flw} {k : Nat} (hk : k < l.length) : wsI cur c (l.take (k + 1)) = wsI cur c (l.take k) + ctI cur c (l.getD k flw0) := by
  rw [take_nextF hk, wsI_append]; simp [wsI]
def tldV (x : Nat) : Nat := if finB (x : Int) = true then x else 0
def tldE (x : Nat) : Int := if finB (x : Int) = true then 0 else 91
theorem bad_am {f : Flw} (h : badF f = 0) : finB (f.am : Int) = true := by
  unfold badF at h
  split at h
  · cases h
  · split at h
    · cases h
    · rename_i _ h2
      cases hb : finB (f.am : Int)
      · exact absurd hb h2
      · rfl
theorem Cv.num {c : Cv} {x : Int} (ok : c.Ok) (hf : c.Fit) (h : c.E x = 0) : c.V x < 18446744073709551616 ∧ 0 < rankI (c.V x : Nat) ∧ nanB (c.V x : Nat) = false := facV_pos ok hf h
end Go.Proofs.YtkcnkhdbojdhgaaGreat
namespace Go.Proofs.YtkcnkhdbojdhgaaGreat
open Go.RowKit

end Go.Proofs.YtkcnkhdbojdhgaaGreat
namespace Go.Proofs.YtkcnkhdbojdhgaaGreat
open Go.RowKit

theorem accLow {w : World} {B B' b L : Nat} {v : Value} {a : A.St} (h : A.AccAt w B b v L a) (hk : ∀ k, A.Ft b v k → B' ≤ k) : A.AccAt w B' b v L a := by
  obtain ⟨xs, ho, hl, hs⟩ := h.own
  refine ⟨h.blk, hk b (Or.inl rfl), ⟨xs, ⟨⟨ho.own.1, ?_⟩, ho.fit⟩, hl, hs⟩, h.ne, h.ok⟩
  rcases ho.own.2 with h6 | ⟨g, cap, cur, h6, h7, rest⟩
  · exact .inl h6
  · exact .inr ⟨g, cap, cur, h6, hk g (Or.inr (by rw [h6]; rfl)), rest⟩
structure WAt (w : World) (g : Nat) (N : Int) (L : Nat) : Prop where
  ex : ∃ b v, w.heap[g]? = some (.cells #[.pointer (some ⟨b, 0, none⟩)] 55) ∧ A.AccAt w 0 b v L ⟨0, N⟩
theorem WAt.below {w w' : World} {g : Nat} {N : Int} {L : Nat} (h : WAt w g N L) (hb : Below w.heap.size w w') : WAt w' g N L := by
  obtain ⟨b, v, h1, h2⟩ := h.ex
  exact ⟨b, v, (hb.block g (Array.getElem?_eq_some_iff.1 h1).1).trans h1, h2.below hb⟩
theorem WAt.drewN {w : World} {g : Nat} {N : Int} {L : Nat} (h : WAt w g N L) (n : Nat) : WAt (w.drewN n) g N L := by
  obtain ⟨b, v, h1, h2⟩ := h.ex
  exact ⟨b, v, h1, h2.drewN n⟩
theorem WAt.lt {w : World} {g : Nat} {N : Int} {L : Nat} (h : WAt w g N L) : g < w.heap.size := by
  obtain ⟨b, v, h1, _⟩ := h.ex
  exact (Array.getElem?_eq_some_iff.1 h1).1
theorem WAt.at_ {w : World} {g : Nat} {N : Int} {L : Nat} (h : WAt w g N L) : ∃ b v, w.cell? ⟨g, 0, none⟩ = some (.pointer (some ⟨b, 0, none⟩)) ∧ A.AccAt w 0 b v L ⟨0, N⟩ := by
  obtain ⟨b, v, h1, h2⟩ := h.ex
  exact ⟨b, v, by simp [World.cell?, h1], h2⟩
theorem wat_new {w : World} {b : Nat} {v : Value} {L : Nat} {N : Int} (h : A.AccAt w 0 b v L ⟨0, N⟩) : WAt (w.alloc (.cells #[.pointer (some ⟨b, 0, none⟩)] 55)) w.heap.size N L :=
  ⟨b, v, heap_alloc_new _ _, h.below ((Below.refl _ _).alloc (Nat.le_refl _) _)⟩
theorem merge_ints (N M : Int) : (⟨0, N⟩ : A.St).merge ⟨0, M⟩ = ⟨0, N + M⟩ := rfl
set_option maxHeartbeats 800000 in
theorem xNothing_any (w : World) : Calls Tryz.prog 33 #[] w fun e w' => ∃ g, e = .returned (.pointer (some ⟨g, 0, none⟩)) ∧ WAt w' g 0 70 ∧ Below w.heap.size w w' := by
  have HN := hideS (A.new_any w 0 (Nat.zero_le _))
  go_enter Tryz.func33, Tryz.ntmps33
  go_wp2_with fail
  refine HN.out.mono ?_
  rintro e w2 ⟨rfl, ha, hb⟩
  have HW := hideS (wat_new (ha.mono (L' := 70) (by omega)))
  have HB := hideS (hb.alloc hb.size (.cells #[.pointer (some ⟨w.heap.size, 0, none⟩)] 55))
  clear ha hb HN
  go_wp2_with fail
  go_ret
  exact ⟨_, rfl, HW.out, HB.out⟩
theorem valSt_int (N : Int) : A.valSt ⟨0, N⟩ = valF N := by unfold A.valSt; exact if_pos rfl
theorem sgSt_int (N : Int) : A.sgSt ⟨0, N⟩ = A.sgnI N := by unfold A.sgSt; exact if_pos rfl
theorem WAt.value {w : World} {b : Nat} {v : Value} {N : Int} {L : Nat} (h : A.AccAt w 0 b v L ⟨0, N⟩) (hL : L ≤ 40000) : Calls Tryz.prog 20 #[.pointer (some ⟨b, 0, none⟩)] w fun r w' => r = .returned (.float .f64 (valF N)) ∧ Below w.heap.size w w' := by
  have := A.value_any 0 b v L ⟨0, N⟩ w h (Nat.zero_le _) hL
  rw [valSt_int] at this
  exact this
theorem WAt.sign {w : World} {b : Nat} {v : Value} {N : Int} {L : Nat} (h : A.AccAt w 0 b v L ⟨0, N⟩) (hL : L ≤ 40000) : Calls Tryz.prog 22 #[.pointer (some ⟨b, 0, none⟩)] w fun r w' => r = .returned (.int .i64 (A.sgnI N)) ∧ w' = w := by
  have := A.signA_any 0 b v L ⟨0, N⟩ w h hL
  rw [sgSt_int] at this
  exact this
end Go.Proofs.YtkcnkhdbojdhgaaGreat
