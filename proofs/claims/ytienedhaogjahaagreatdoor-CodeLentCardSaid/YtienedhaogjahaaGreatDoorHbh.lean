/- The document's way to tell whether a list of terms is a tree: where each term's part begins, and how deep it is; against the stack of loose terms. No word of a program. Deals compiled, in plain words: the code of a tree, and the states that the compiler goes through. The document's Of and Same of terms. -/
import Derived.Test.YtienedhaogjahaaGreatDoorHbg
import Derived.Test.YtienedhaogjahaaGreatDoorHbe
namespace Go.Proofs.YtienedhaogjahaaGreatDoor
open Go.RowKit

def shS (i : Nat) (t : Trm) (F D : List Int) : Option (Int × Int) :=
  if fldB t = false then none
  else if t.kind ≤ 3 then if t.a = 0 ∧ t.b = 0 then some ((i : Int), 1) else none
  else if t.kind = 5 then if 0 < i ∧ t.b = (i : Int) - 1 ∧ 0 < F.getD (i - 1) 0 ∧ t.a = F.getD (i - 1) 0 - 1 then some (F.getD t.a.toNat 0, 1 + max (D.getD t.a.toNat 0) (D.getD (i - 1) 0)) else none
  else if 0 < i ∧ t.a = (i : Int) - 1 ∧ t.b = 0 then some (F.getD (i - 1) 0, 1 + D.getD (i - 1) 0) else none
def shP (ts : List Trm) : Nat → Option (List Int × List Int)
  | 0 => some ([], [])
  | k + 1 => (shP ts k).bind fun s => (shS k (ts.getD k trm0) s.1 s.2).map fun r => (s.1 ++ [r.1], s.2 ++ [r.2])
inductive Chn (F D : List Int) : Nat → List (Int × Int) → Prop
  | nil : Chn F D 0 []
  | snoc (i f : Nat) (ys : List (Int × Int)) : F.getD i 0 = (f : Int) → f ≤ i → Chn F D f ys → Chn F D (i + 1) (ys ++ [((i : Int), D.getD i 0)])
theorem getD_app {l : List Int} {x : Int} {j : Nat} (h : j < l.length) : (l ++ [x]).getD j 0 = l.getD j 0 := by
  simp [List.getD, List.getElem?_append_left h]
theorem getD_end {l : List Int} {x : Int} {j : Nat} (h : j = l.length) : (l ++ [x]).getD j 0 = x := by
  subst h; simp [List.getD]
theorem Chn.more {F D : List Int} {f d : Int} {i : Nat} {xs : List (Int × Int)} (h : Chn F D i xs) (hF : i ≤ F.length) (hD : i ≤ D.length) : Chn (F ++ [f]) (D ++ [d]) i xs := by
  induction h with
  | nil => exact .nil
  | snoc i g ys e hg _ ih =>
    have := Chn.snoc (F := F ++ [f]) (D := D ++ [d]) i g ys (by rw [getD_app (by omega)]; exact e) hg (ih (by omega) (by omega))
    rw [getD_app (by omega)] at this
    exact this
structure ShI (F D : List Int) (k : Nat) : Prop where
  lf : F.length = k
  ld : D.length = k
  f0 : ∀ j < k, 0 ≤ F.getD j 0 ∧ F.getD j 0 ≤ j
  d0 : ∀ j < k, 1 ≤ D.getD j 0 ∧ D.getD j 0 ≤ (j : Int) + 1
theorem ShI.more {F D : List Int} {k : Nat} (h : ShI F D k) {f d : Int} (hf : 0 ≤ f ∧ f ≤ k) (hd : 1 ≤ d ∧ d ≤ (k : Int) + 1) : ShI (F ++ [f]) (D ++ [d]) (k + 1) := by
  refine ⟨by simp [h.lf], by simp [h.ld], fun j hj => ?_, fun j hj => ?_⟩
  · by_cases e : j = k
    · rw [getD_end (by rw [h.lf]; exact e), e]; exact hf
    · rw [getD_app (by rw [h.lf]; omega)]; exact h.f0 j (by omega)
  · by_cases e : j = k
    · rw [getD_end (by rw [h.ld]; exact e), e]; exact hd
    · rw [getD_app (by rw [h.ld]; omega)]; exact h.d0 j (by omega)
theorem fit_leaf {t : Trm} (h : fitT t = true) : ptN t.kind = 0 → t.kind ≤ 3 ∧ t.a = 0 ∧ t.b = 0 := by
  intro h0
  obtain ⟨k1, k8⟩ := fit_kind h
  have ha := h
  unfold fitT abZ at ha
  rw [h0, if_neg (by decide), if_neg (by decide), Bool.and_eq_true, Bool.and_eq_true, beq_iff_eq, beq_iff_eq] at ha
  refine ⟨?_, ha.2⟩
  unfold ptN at h0
  split at h0
  · cases h0
  · split at h0
    · cases h0
    · omega
theorem fit_one {t : Trm} (h : fitT t = true) : ptN t.kind = 1 → 3 < t.kind ∧ t.kind ≠ 5 ∧ t.b = 0 := by
  intro h0
  have ha := h
  unfold fitT abZ at ha
  rw [h0, if_neg (by decide), if_pos rfl, Bool.and_eq_true, beq_iff_eq] at ha
  unfold ptN at h0
  split at h0
  · cases h0
  · split at h0
    · exact ⟨by omega, by assumption, ha.2⟩
    · cases h0
theorem fit_two {t : Trm} : ptN t.kind = 2 → t.kind = 5 := by
  intro h0
  unfold ptN at h0
  split at h0
  · assumption
  · split at h0 <;> cases h0
theorem jn_app1 (ys : List (Int × Int)) (x : Int × Int) (pl a b : Int) : jnL (ys ++ [x]) pl 1 a b = if x.1 = a then some (ys ++ [(pl, max 0 x.2 + 1)]) else none := by
  unfold jnL
  rw [if_neg (by decide), if_pos rfl, if_neg (by simp), List.length_append, List.length_singleton, Nat.add_sub_cancel, List.take_left]
  have : (ys ++ [x]).getD ys.length (0, 0) = x := by simp [List.getD]
  rw [this]
theorem jn_app2 (r : List (Int × Int)) (x y : Int × Int) (pl a b : Int) : jnL (r ++ [x] ++ [y]) pl 2 a b = if x.1 = a ∧ y.1 = b then some (r ++ [(pl, max (max 0 x.2) y.2 + 1)]) else none := by
  rw [show r ++ [x] ++ [y] = r ++ [x, y] by simp]
  unfold jnL
  have l2 : (r ++ [x, y]).length = r.length + 2 := by simp
  rw [if_neg (by decide), if_neg (by decide), if_neg (by omega), l2, show r.length + 2 - 2 = r.length by omega, show r.length + 2 - 1 = r.length + 1 by omega, List.take_left]
  have g1 : (r ++ [x, y]).getD r.length (0, 0) = x := by simp [List.getD]
  have g2 : (r ++ [x, y]).getD (r.length + 1) (0, 0) = y := by simp [List.getD]
  rw [g1, g2]
theorem sh_step {F D : List Int} {k : Nat} {xs : List (Int × Int)} (hI : ShI F D k) (hc : Chn F D k xs) (t : Trm) :
    (shS k t F D = none ∧ stT xs k t = none) ∨ ∃ f d ys, shS k t F D = some (f, d) ∧ stT xs k t = some ys ∧ Chn (F ++ [f]) (D ++ [d]) (k + 1) ys ∧ (0 ≤ f ∧ f ≤ (k : Int)) ∧ 1 ≤ d ∧ d ≤ (k : Int) + 1 := by
  have new : ∀ (f : Nat) (d : Int) (ys : List (Int × Int)), f ≤ k → Chn F D f ys → Chn (F ++ [(f : Int)]) (D ++ [d]) (k + 1) (ys ++ [((k : Int), d)]) := fun f d ys hf h => by
    have := Chn.snoc (F := F ++ [(f : Int)]) (D := D ++ [d]) k f ys (getD_end hI.lf.symm) hf (h.more (by rw [hI.lf]; exact hf) (by rw [hI.ld]; exact hf))
    rw [getD_end hI.ld.symm] at this
    exact this
  unfold stT
  cases hft : fitT t with
  | false =>
    refine .inl ⟨?_, if_neg (by decide)⟩
    unfold shS
    cases hb : fldB t with
    | false => exact if_pos rfl
    | true =>
      rw [if_neg (by decide)]
      have hab : abZ t = false := by unfold fitT at hft; rw [hb, Bool.true_and] at hft; exact hft
      have hk8 : 1 ≤ t.kind ∧ t.kind ≤ 8 := by
        by_cases hk : 1 ≤ t.kind ∧ t.kind ≤ 8
        · exact hk
        · unfold fldB at hb
          rw [if_neg (by omega), if_neg (by omega), if_neg (by omega), if_neg (by omega), if_neg (by omega), if_neg (by omega), if_neg (by omega), if_neg (by omega)] at hb
          cases hb
      unfold abZ at hab
      by_cases h3 : t.kind ≤ 3
      · rw [if_pos h3]
        have hp : ptN t.kind = 0 := by unfold ptN; rw [if_neg (by omega), if_neg (by omega)]
        rw [hp, if_neg (by decide), if_neg (by decide)] at hab
        refine if_neg fun h => ?_
        rw [h.1, h.2] at hab; cases hab
      · rw [if_neg h3]
        by_cases h5 : t.kind = 5
        · have hp : ptN t.kind = 2 := by unfold ptN; rw [if_pos h5]
          rw [hp, if_pos rfl] at hab; cases hab
        · rw [if_neg h5]
          have hp : ptN t.kind = 1 := by unfold ptN; rw [if_neg h5, if_pos (by omega)]
          rw [hp, if_neg (by decide), if_pos rfl] at hab
          refine if_neg fun h => ?_
          rw [h.2.2] at hab; cases hab
  | true =>
    rw [if_pos rfl]
    have hb : fldB t = true := by unfold fitT at hft; rw [Bool.and_eq_true] at hft; exact hft.1
    have hb' : ¬ fldB t = false := by rw [hb]; decide
    have hp3 : ptN t.kind = 0 ∨ ptN t.kind = 1 ∨ ptN t.kind = 2 := by have := pt_le t.kind; omega
    rcases hp3 with hp | hp | hp
    · obtain ⟨h3, ha, hbz⟩ := fit_leaf hft hp
      refine .inr ⟨(k : Int), 1, xs ++ [((k : Int), 1)], ?_, by rw [hp]; rfl, new k 1 xs (Nat.le_refl _) hc, ⟨by omega, Int.le_refl _⟩, by decide, by omega⟩
      unfold shS
      rw [if_neg hb', if_pos h3, if_pos ⟨ha, hbz⟩]
    · obtain ⟨h3, h5, hbz⟩ := fit_one hft hp
      rw [hp]
      have hs : shS k t F D = if 0 < k ∧ t.a = (k : Int) - 1 ∧ t.b = 0 then some (F.getD (k - 1) 0, 1 + D.getD (k - 1) 0) else none := by
        unfold shS; rw [if_neg hb', if_neg (by omega), if_neg h5]
      rw [hs]
      cases hc with
      | nil => exact .inl ⟨if_neg (by omega), rfl⟩
      | snoc i f ys e hf hcf =>
        rw [jn_app1]
        have hd := hI.d0 i (by omega)
        by_cases hai : (i : Int) = t.a
        · rw [if_pos ⟨by omega, by omega, hbz⟩, if_pos hai]
          have e1 : i + 1 - 1 = i := by omega
          rw [e1, e]
          refine .inr ⟨(f : Int), 1 + D.getD i 0, ys ++ [(((i + 1 : Nat) : Int), 1 + D.getD i 0)], rfl, ?_, new f _ ys (by omega) hcf, ⟨by omega, by omega⟩, by omega, by omega⟩
          rw [show max 0 (D.getD i 0) + 1 = 1 + D.getD i 0 by omega]
        · rw [if_neg (by omega), if_neg hai]
          exact .inl ⟨rfl, rfl⟩
    · have h5 := fit_two hp
      rw [hp]
      have hs : shS k t F D = if 0 < k ∧ t.b = (k : Int) - 1 ∧ 0 < F.getD (k - 1) 0 ∧ t.a = F.getD (k - 1) 0 - 1 then some (F.getD t.a.toNat 0, 1 + max (D.getD t.a.toNat 0) (D.getD (k - 1) 0)) else none := by
        unfold shS; rw [if_neg hb', if_neg (by omega), if_pos h5]
      rw [hs]
      cases hc with
      | nil => exact .inl ⟨if_neg (by omega), rfl⟩
      | snoc i f ys e hf hcf =>
        have e1 : i + 1 - 1 = i := by omega
        rw [e1, e]
        have hd := hI.d0 i (by omega)
        cases hcf with
        | nil =>
          refine .inl ⟨if_neg (by omega), ?_⟩
          unfold jnL
          rw [if_neg (by decide), if_neg (by decide), if_pos (by simp)]
        | snoc j f2 zs e2 hf2 hc2 =>
          rw [jn_app2]
          have hd2 := hI.d0 j (by omega)
          by_cases hab : (j : Int) = t.a ∧ (i : Int) = t.b
          · rw [if_pos ⟨by omega, by omega, by omega, by omega⟩, if_pos hab]
            have ea : t.a.toNat = j := by omega
            rw [ea, e2]
            refine .inr ⟨(f2 : Int), 1 + max (D.getD j 0) (D.getD i 0), zs ++ [(((i + 1 : Nat) : Int), 1 + max (D.getD j 0) (D.getD i 0))], rfl, ?_, new f2 _ zs (by omega) hc2, ⟨by omega, by omega⟩, by omega, by omega⟩
            rw [show max (max 0 (D.getD j 0)) (D.getD i 0) + 1 = 1 + max (D.getD j 0) (D.getD i 0) by omega]
          · rw [if_neg (by omega), if_neg hab]
            exact .inl ⟨rfl, rfl⟩
theorem sh_both (ts : List Trm) : ∀ k, (shP ts k = none ∧ mS ts k = none) ∨ ∃ F D xs, shP ts k = some (F, D) ∧ mS ts k = some xs ∧ Chn F D k xs ∧ ShI F D k
  | 0 => .inr ⟨[], [], [], rfl, rfl, .nil, ⟨rfl, rfl, fun j hj => by omega, fun j hj => by omega⟩⟩
  | k + 1 => by
    show ((shP ts k).bind _ = none ∧ (mS ts k).bind _ = none) ∨ ∃ F D xs, (shP ts k).bind _ = some (F, D) ∧ (mS ts k).bind _ = some xs ∧ _
    rcases sh_both ts k with ⟨h1, h2⟩ | ⟨F, D, xs, h1, h2, hc, hI⟩
    · rw [h1, h2]; exact .inl ⟨rfl, rfl⟩
    · rw [h1, h2]
      rcases sh_step hI hc (ts.getD k trm0) with ⟨g1, g2⟩ | ⟨f, d, ys, g1, g2, gc, gf, gd⟩
      · refine .inl ⟨?_, g2⟩
        show Option.map _ (shS k (ts.getD k trm0) F D) = none
        rw [g1]; rfl
      · refine .inr ⟨F ++ [f], D ++ [d], ys, ?_, g2, gc, hI.more gf gd⟩
        show Option.map _ (shS k (ts.getD k trm0) F D) = _
        rw [g1]; rfl
theorem shP_next {ts : List Trm} {k : Nat} {F D : List Int} (h : shP ts k = some (F, D)) : shP ts (k + 1) = (shS k (ts.getD k trm0) F D).map fun r => (F ++ [r.1], D ++ [r.2]) := by
  show (shP ts k).bind _ = _
  rw [h]; rfl
theorem shP_inv {ts : List Trm} {k : Nat} {F D : List Int} (h : shP ts k = some (F, D)) : ShI F D k ∧ ∃ xs, mS ts k = some xs ∧ Chn F D k xs := by
  rcases sh_both ts k with ⟨h1, _⟩ | ⟨F', D', xs, h1, h2, hc, hI⟩
  · rw [h1] at h; cases h
  · rw [h1] at h
    injection h with h
    injection h with e1 e2
    subst e1 e2
    exact ⟨hI, xs, h2, hc⟩
theorem shP_bad {ts : List Trm} {k : Nat} (h : shP ts k = none) : mS ts k = none := by
  rcases sh_both ts k with ⟨_, h2⟩ | ⟨F', D', xs, h1, _⟩
  · exact h2
  · rw [h1] at h; cases h
theorem chn_one {F D : List Int} {n : Nat} {xs : List (Int × Int)} (h : Chn F D n xs) (hn : 1 ≤ n) (h0 : F.getD (n - 1) 0 = 0) : xs = [(((n : Int) - 1), D.getD (n - 1) 0)] := by
  cases h with
  | nil => omega
  | snoc i f ys e hf hc =>
    rw [show i + 1 - 1 = i by omega] at h0 ⊢
    rw [e] at h0
    obtain rfl : f = 0 := by omega
    cases hc with
    | nil => rw [show (((i + 1 : Nat) : Int) - 1) = (i : Int) by omega]; rfl
theorem chn_many {F D : List Int} {n : Nat} {xs : List (Int × Int)} (h : Chn F D n xs) (hn : 1 ≤ n) (h0 : 0 < F.getD (n - 1) 0) : 1 < xs.length := by
  cases h with
  | nil => omega
  | snoc i f ys e hf hc =>
    rw [show i + 1 - 1 = i by omega] at h0
    rw [e] at h0
    cases hc with
    | nil => omega
    | snoc j f2 zs _ _ _ => simp
theorem mes_bad {ts : List Trm} {k : Nat} {F D : List Int} (hl : ts.length ≤ 1024) (hk : k < ts.length) (h : shP ts k = some (F, D)) (h' : shP ts (k + 1) = none) : MesR ts 0 171 k := by
  obtain ⟨_, xs, hx, _⟩ := shP_inv h
  exact .bad k xs hl hk hx (shP_bad h')
theorem mes_more {ts : List Trm} {n : Nat} {F D : List Int} (hl : ts.length ≤ 1024) (hn : ts.length = n) (h1 : 1 ≤ n) (h : shP ts n = some (F, D)) (h0 : 0 < F.getD (n - 1) 0) : MesR ts 0 171 ((n : Int) - 1) := by
  obtain ⟨_, xs, hx, hc⟩ := shP_inv h
  subst hn
  exact .more xs hl hx (chn_many hc h1 h0)
theorem mes_one {ts : List Trm} {n : Nat} {F D : List Int} (hl : ts.length ≤ 1024) (hn : ts.length = n) (h1 : 1 ≤ n) (h : shP ts n = some (F, D)) (h0 : F.getD (n - 1) 0 = 0) : (64 < D.getD (n - 1) 0 → MesR ts 0 172 ((n : Int) - 1)) ∧ (D.getD (n - 1) 0 ≤ 64 → MesR ts (D.getD (n - 1) 0) 0 0) := by
  obtain ⟨_, xs, hx, hc⟩ := shP_inv h
  subst hn
  rw [chn_one hc h1 h0] at hx
  exact ⟨fun hd => .deep _ _ hl hx hd, fun hd => .ok _ _ hl hx hd⟩
theorem MesR.unique {ts : List Trm} {D E A D' E' A' : Int} (h : MesR ts D E A) (h' : MesR ts D' E' A') : D = D' ∧ E = E' ∧ A = A' := by
  have low : ∀ {k xs}, k < ts.length → mS ts k = some xs → mS ts (k + 1) = none → mS ts ts.length = none := fun hk _ hb => mS_none hb _ (by omega)
  cases h with
  | long hl => cases h' <;> first | exact ⟨rfl, rfl, rfl⟩ | omega
  | bad k xs hl hk hx hn =>
    cases h' with
    | long => omega
    | bad k' xs' _ hk' hx' hn' =>
      rcases Nat.lt_trichotomy k k' with h | h | h
      · rw [mS_none hn k' (by omega)] at hx'; cases hx'
      · rw [h]; exact ⟨rfl, rfl, rfl⟩
      · rw [mS_none hn' k (by omega)] at hx; cases hx
    | empty => omega
    | more _ _ hy => rw [low hk hx hn] at hy; cases hy
    | deep _ _ _ hy => rw [low hk hx hn] at hy; cases hy
    | ok _ _ _ hy => rw [low hk hx hn] at hy; cases hy
  | empty h0 =>
    have hz : mS ts ts.length = some [] := by rw [h0]; rfl
    cases h' with
    | long => omega
    | bad k' xs' _ hk' => omega
    | empty => exact ⟨rfl, rfl, rfl⟩
    | more _ _ hy hx => rw [hz] at hy; injection hy with hy; subst hy; simp at hx
    | deep _ _ _ hy => rw [hz] at hy; injection hy with hy; cases hy
    | ok _ _ _ hy => rw [hz] at hy; injection hy with hy; cases hy
  | more xs hl hx hlen =>
    cases h' with
    | long => omega
    | bad k' xs' _ hk' hx' hn' => rw [low hk' hx' hn'] at hx; cases hx
    | empty h0 => have hz : mS ts ts.length = some [] := by rw [h0]; rfl
                  rw [hz] at hx; injection hx with hx; subst hx; simp at hlen
    | more => exact ⟨rfl, rfl, rfl⟩
    | deep _ _ _ hy => rw [hx] at hy; injection hy with hy; subst hy; simp at hlen
    | ok _ _ _ hy => rw [hx] at hy; injection hy with hy; subst hy; simp at hlen
  | deep p d hl hx hd =>
    cases h' with
    | long => omega
    | bad k' xs' _ hk' hx' hn' => rw [low hk' hx' hn'] at hx; cases hx
    | empty h0 => have hz : mS ts ts.length = some [] := by rw [h0]; rfl
                  rw [hz] at hx; injection hx with hx; cases hx
    | more _ _ hy hlen => rw [hx] at hy; injection hy with hy; subst hy; simp at hlen
    | deep => exact ⟨rfl, rfl, rfl⟩
    | ok p' d' _ hy hd' => rw [hx] at hy; injection hy with hy; injection hy with hy; injection hy with _ hy; omega
  | ok p d hl hx hd =>
    cases h' with
    | long => omega
    | bad k' xs' _ hk' hx' hn' => rw [low hk' hx' hn'] at hx; cases hx
    | empty h0 => have hz : mS ts ts.length = some [] := by rw [h0]; rfl
                  rw [hz] at hx; injection hx with hx; cases hx
    | more _ _ hy hlen => rw [hx] at hy; injection hy with hy; subst hy; simp at hlen
    | deep p' d' _ hy hd' => rw [hx] at hy; injection hy with hy; injection hy with hy; injection hy with _ hy; omega
    | ok p' d' _ hy => rw [hx] at hy; injection hy with hy; injection hy with hy; injection hy with _ hy; exact ⟨hy, rfl, rfl⟩
theorem mesR_ex (ts : List Trm) : ∃ D E A, MesR ts D E A := by
  by_cases hl : 1024 < ts.length
  · exact ⟨_, _, _, .long hl⟩
  by_cases h0 : ts.length = 0
  · exact ⟨_, _, _, .empty h0⟩
  have hfst : ∀ k, k ≤ ts.length → (∃ j xs, j < k ∧ mS ts j = some xs ∧ mS ts (j + 1) = none) ∨ ∃ xs, mS ts k = some xs := by
    intro k
    induction k with
    | zero => exact fun _ => .inr ⟨[], rfl⟩
    | succ k ih =>
      intro hk
      rcases ih (by omega) with ⟨j, xs, hj, h1, h2⟩ | ⟨xs, hx⟩
      · exact .inl ⟨j, xs, by omega, h1, h2⟩
      · cases e : mS ts (k + 1) with
        | none => exact .inl ⟨k, xs, by omega, hx, e⟩
        | some ys => exact .inr ⟨ys, rfl⟩
  rcases hfst _ (Nat.le_refl _) with ⟨j, xs, hj, h1, h2⟩ | ⟨xs, hx⟩
  · exact ⟨_, _, _, .bad j xs (by omega) hj h1 h2⟩
  · have h1 := (mS_sm _ hx).2.2 (by omega)
    by_cases hm : 1 < xs.length
    · exact ⟨_, _, _, .more xs (by omega) hx hm⟩
    · match xs, (show xs.length = 1 by omega) with
      | [(p, d)], _ =>
        by_cases hd : 64 < d
        · exact ⟨_, _, _, .deep p d (by omega) hx hd⟩
        · exact ⟨_, _, _, .ok p d (by omega) hx (by omega)⟩
end Go.Proofs.YtienedhaogjahaaGreatDoor
namespace Go.Proofs.YtienedhaogjahaaGreatDoor
open Go.RowKit

inductive CodR (ts : List Trm) : Nat → List Opr → Nat → Prop
  | zero (i : Nat) : i < ts.length → (ts.getD i trm0).kind = 1 → CodR ts i [] 1
  | leaf (i : Nat) : i < ts.length → (ts.getD i trm0).kind = 2 ∨ (ts.getD i trm0).kind = 3 → CodR ts i [opT (ts.getD i trm0)] 1
  | both (i a b : Nat) (la lb : List Opr) (ka kb : Nat) : i < ts.length → (ts.getD i trm0).kind = 5 → (ts.getD i trm0).a = (a : Int) → (ts.getD i trm0).b = (b : Int) → a < i → b < i → CodR ts a la ka → CodR ts b lb kb → CodR ts i (la ++ lb) (ka + kb + 1)
  | one (i a : Nat) (la : List Opr) (ka : Nat) : i < ts.length → (ts.getD i trm0).kind = 4 ∨ (6 ≤ (ts.getD i trm0).kind ∧ (ts.getD i trm0).kind ≤ 8) → (ts.getD i trm0).a = (a : Int) → a < i → CodR ts a la ka → CodR ts i (markO :: (la ++ [opT (ts.getD i trm0)])) (ka + 1 + 1)
theorem sh_parts {ts : List Trm} {n : Nat} {F D : List Int} (h : shP ts n = some (F, D)) : ∀ i < n, fitT (ts.getD i trm0) = true ∧ ((ts.getD i trm0).kind ≤ 3 ∧ F.getD i 0 = (i : Int) ∨ (ts.getD i trm0).kind = 5 ∧ (∃ a : Nat, (ts.getD i trm0).a = (a : Int) ∧ a + 1 < i + 1 ∧ (ts.getD i trm0).b = ((i - 1 : Nat) : Int) ∧ a < i - 1 ∧ F.getD (i - 1) 0 = (a : Int) + 1 ∧ F.getD i 0 = F.getD a 0) ∨ (3 < (ts.getD i trm0).kind ∧ (ts.getD i trm0).kind ≠ 5) ∧ 1 ≤ i ∧ (ts.getD i trm0).a = ((i - 1 : Nat) : Int) ∧ F.getD i 0 = F.getD (i - 1) 0) := by
  induction n generalizing F D with
  | zero => intro i hi; omega
  | succ n ih =>
    cases e : shP ts n with
    | none =>
      have : shP ts (n + 1) = none := by show (shP ts n).bind _ = none; rw [e]; rfl
      rw [this] at h; cases h
    | some s =>
      obtain ⟨F', D'⟩ := s
      have hx := shP_next e
      rw [h] at hx
      obtain ⟨hI, xs, hms, _⟩ := shP_inv e
      cases e2 : shS n (ts.getD n trm0) F' D' with
      | none => rw [e2] at hx; cases hx
      | some r =>
        obtain ⟨f, d⟩ := r
        rw [e2] at hx
        injection hx with hx
        injection hx with hx1 hx2
        subst hx1 hx2
        have lf := hI.lf
        intro i hi
        by_cases hin : i < n
        · have := ih e i hin
          rw [getD_app (by omega)]
          refine ⟨this.1, ?_⟩
          rcases this.2 with h | ⟨h, a, h1, h2, h3, h4, h5, h6⟩ | ⟨h, h1, h2, h3⟩
          · exact .inl h
          · exact .inr (.inl ⟨h, a, h1, h2, h3, h4, by rw [getD_app (by omega)]; exact h5, by rw [getD_app (by omega)]; exact h6⟩)
          · exact .inr (.inr ⟨h, h1, h2, by rw [getD_app (by omega)]; exact h3⟩)
        · obtain rfl : i = n := by omega
          rw [getD_end lf.symm]
          have hft : fitT (ts.getD i trm0) = true := by
            have hm := mS_step hms
            obtain ⟨ys, hys⟩ : ∃ ys, mS ts (i + 1) = some ys := by
              obtain ⟨_, ys, hys, _⟩ := shP_inv h
              exact ⟨ys, hys⟩
            rw [hys] at hm
            unfold stT at hm
            split at hm
            · assumption
            · cases hm
          refine ⟨hft, ?_⟩
          unfold shS at e2
          split at e2
          · cases e2
          split at e2
          · rename_i h3
            split at e2
            · injection e2 with e2; injection e2 with e3 e4
              exact .inl ⟨h3, e3.symm⟩
            · cases e2
          split at e2
          · rename_i h3 h5
            split at e2
            · rename_i hc
              injection e2 with e2; injection e2 with e3 e4
              have hb := hI.f0 (i - 1) (by omega)
              refine .inr (.inl ⟨h5, (ts.getD i trm0).a.toNat, by omega, by omega, by omega, by omega, ?_, ?_⟩)
              · rw [getD_app (by omega)]; omega
              · rw [getD_app (by omega)]; exact e3.symm
            · cases e2
          · rename_i h3 h5
            split at e2
            · rename_i hc
              injection e2 with e2; injection e2 with e3 e4
              refine .inr (.inr ⟨⟨by omega, h5⟩, by omega, by omega, ?_⟩)
              rw [getD_app (by omega)]; exact e3.symm
            · cases e2
theorem cod_ex {ts : List Trm} {F D : List Int} (h : shP ts ts.length = some (F, D)) : ∀ i < ts.length, ∃ l K, CodR ts i l K ∧ l.length ≤ K ∧ (K : Int) ≤ 2 * ((i : Int) + 1 - F.getD i 0) := by
  obtain ⟨hI, _⟩ := shP_inv h
  have key : ∀ k i, i < k → i < ts.length → ∃ l K, CodR ts i l K ∧ l.length ≤ K ∧ (K : Int) ≤ 2 * ((i : Int) + 1 - F.getD i 0) := by
    intro k
    induction k with
    | zero => intro i hi; omega
    | succ k ih =>
      intro i hik hi
      have f0 := hI.f0 i hi
      obtain ⟨hft, hp⟩ := sh_parts h i hi
      have hk := fit_kind hft
      rcases hp with ⟨h3, hf⟩ | ⟨h5, a, ha, h2, hb, hab, hf1, hf2⟩ | ⟨h3, h1, ha, hf⟩
      · by_cases hz : (ts.getD i trm0).kind = 1
        · exact ⟨[], 1, .zero i hi hz, by simp, by omega⟩
        · exact ⟨_, 1, .leaf i hi (by omega), by simp, by omega⟩
      · obtain ⟨la, ka, ca, la', ka'⟩ := ih a (by omega) (by omega)
        obtain ⟨lb, kb, cb, lb', kb'⟩ := ih (i - 1) (by omega) (by omega)
        exact ⟨_, _, .both i a (i - 1) la lb ka kb hi h5 ha hb (by omega) (by omega) ca cb, by rw [List.length_append]; omega, by omega⟩
      · obtain ⟨la, ka, ca, la', ka'⟩ := ih (i - 1) (by omega) (by omega)
        refine ⟨_, _, .one i (i - 1) la ka hi (by omega) ha (by omega) ca, ?_, by omega⟩
        rw [List.length_cons, List.length_append, List.length_singleton]; omega
  exact fun i hi => key (i + 1) i (by omega) hi
inductive CPath (ts : List Trm) : List Opr × List (Int × Bool) → Nat → List Opr × List (Int × Bool) → Prop
  | refl (s) : CPath ts s 0 s
  | step (s s' s'' : List Opr × List (Int × Bool)) (K : Nat) (r : List (Int × Bool)) (i : Nat) (vb : Bool) : s.2 = r ++ [((i : Int), vb)] → i < ts.length → CStep (ts.getD i trm0) s.1 r ((i : Int), vb) s' → CPath ts s' K s'' → CPath ts s (K + 1) s''
theorem CPath.append {ts : List Trm} {s s' s'' : List Opr × List (Int × Bool)} {K K' : Nat} (h : CPath ts s K s') (h' : CPath ts s' K' s'') : CPath ts s (K + K') s'' := by
  induction h with
  | refl => rw [Nat.zero_add]; exact h'
  | step s1 s2 s3 K r i vb e hi st _ ih =>
    rw [show K + 1 + K' = (K + K') + 1 by omega]
    exact .step s1 s2 s'' (K + K') r i vb e hi st (ih h')
theorem CPath.states {ts : List Trm} {s s' : List Opr × List (Int × Bool)} {K : Nat} (h : CPath ts s K s') : ∃ S : Nat → List Opr × List (Int × Bool), S 0 = s ∧ S K = s' ∧ ∀ k < K, ∃ (r : List (Int × Bool)) (i : Nat) (vb : Bool), (S k).2 = r ++ [((i : Int), vb)] ∧ i < ts.length ∧ CStep (ts.getD i trm0) (S k).1 r ((i : Int), vb) (S (k + 1)) := by
  induction h with
  | refl s => exact ⟨fun _ => s, rfl, rfl, fun k hk => by omega⟩
  | step s1 s2 s3 K r i vb e hi st _ ih =>
    obtain ⟨S, h0, hK, hs⟩ := ih
    refine ⟨fun k => if k = 0 then s1 else S (k - 1), rfl, ?_, fun k hk => ?_⟩
    · show (if K + 1 = 0 then s1 else S (K + 1 - 1)) = s3
      rw [if_neg (by omega)]; exact hK
    · by_cases hk0 : k = 0
      · subst hk0
        refine ⟨r, i, vb, e, hi, ?_⟩
        show CStep _ s1.1 r _ (S 0)
        rw [h0]; exact st
      · obtain ⟨r', i', vb', e', hi', st'⟩ := hs (k - 1) (by omega)
        refine ⟨r', i', vb', ?_, hi', ?_⟩
        · show (if k = 0 then s1 else S (k - 1)).2 = _
          rw [if_neg hk0]; exact e'
        · show CStep _ (if k = 0 then s1 else S (k - 1)).1 r' _ (S (k + 1 - 1))
          rw [if_neg hk0, show k + 1 - 1 = k - 1 + 1 by omega]; exact st'
theorem cstep_len {x : Trm} {l : List Opr} {r : List (Int × Bool)} {v : Int × Bool} {s : List Opr × List (Int × Bool)} (h : CStep x l r v s) : s.1.length ≤ l.length + 1 ∧ s.2.length ≤ r.length + 2 := by
  cases h <;> simp
theorem tk_leaf {k : Int} (h : k = 2 ∨ k = 3) : tTk k = false := by rcases h with rfl | rfl <;> rfl
theorem tk_one {k : Int} (h : k = 4 ∨ (6 ≤ k ∧ k ≤ 8)) : tTk k = true := by
  unfold tTk
  rcases h with rfl | ⟨h6, h8⟩
  · rfl
  · rw [decide_eq_true h6, decide_eq_true h8, Bool.and_self, Bool.or_true]
theorem cod_path {ts : List Trm} {i K : Nat} {l : List Opr} (h : CodR ts i l K) : ∀ (l0 : List Opr) (r : List (Int × Bool)), CPath ts (l0, r ++ [((i : Int), false)]) K (l0 ++ l, r) := by
  induction h with
  | zero i hi hk =>
    intro l0 r
    refine .step _ (l0, r) _ 0 r i false rfl hi (.zero hk) ?_
    rw [List.append_nil]; exact .refl _
  | leaf i hi hk =>
    intro l0 r
    exact .step _ (l0 ++ [opT (ts.getD i trm0)], r) _ 0 r i false rfl hi (.op (by omega) (by omega) (by rw [tk_leaf hk]; rfl)) (.refl _)
  | both i a b la lb ka kb hi hk ha hb h1 h2 _ _ iha ihb =>
    intro l0 r
    refine .step _ (l0, r ++ [((b : Int), false), ((a : Int), false)]) _ (ka + kb) r i false rfl hi ?_ ?_
    · rw [← ha, ← hb]; exact .both hk
    · have p1 := iha l0 (r ++ [((b : Int), false)])
      rw [List.append_assoc] at p1
      have p2 := ihb (l0 ++ la) r
      rw [List.append_assoc] at p2
      exact p1.append p2
  | one i a la ka hi hk ha h1 _ iha =>
    intro l0 r
    refine .step _ (l0 ++ [markO], r ++ [((i : Int), true), ((a : Int), false)]) _ (ka + 1) r i false rfl hi ?_ ?_
    · rw [← ha]
      exact .mark (by omega) (by omega) (by rw [tk_one hk]; rfl)
    · have p1 := iha (l0 ++ [markO]) (r ++ [((i : Int), true)])
      rw [List.append_assoc] at p1
      refine p1.append (.step _ (l0 ++ [markO] ++ la ++ [opT (ts.getD i trm0)], r) _ 0 r i true rfl hi (.op (by omega) (by omega) rfl) ?_)
      have e : l0 ++ [markO] ++ la ++ [opT (ts.getD i trm0)] = l0 ++ markO :: (la ++ [opT (ts.getD i trm0)]) := by simp
      rw [e]
      exact .refl _
theorem compiled_cod {ts : List Trm} {l : List Opr} {K n : Nat} (hn : ts.length = n) (h1 : 1 ≤ n) (h2 : n ≤ 1024) (hc : CodR ts (n - 1) l K) (hK : K ≤ 2048) (c : Nat) (p0 : Option Addr) (g o : Nat) (w : World) (ht : TSrc w p0 g o ts) :
    Calls Tryz.prog 22 #[.slice p0 n c] w fun e w' => ∃ v, e = .returned v ∧ w'.ownsRow w.heap.size 47 9 v l.length (rowV opC l) ∧ Below w.heap.size w w' := by
  obtain ⟨S, h0, hSK, hS⟩ := (cod_path hc [] []).states
  rw [List.nil_append] at h0
  rw [List.nil_append] at hSK
  have hl : ∀ k ≤ K, (S k).1.length ≤ k ∧ (S k).2.length ≤ k + 1 := by
    intro k
    induction k with
    | zero => intro _; rw [h0]; simp
    | succ k ih =>
      intro hk
      obtain ⟨r, i, vb, e, hi, st⟩ := hS k (by omega)
      have := cstep_len st
      have i1 := ih (by omega)
      have : (S k).2.length = r.length + 1 := by rw [e]; simp
      omega
  have := compiled_any ts n c K p0 g o hn (by omega) S (by rw [h0]; show ([], [(((n - 1 : Nat) : Int), false)]) = _; rw [show ((n - 1 : Nat) : Int) = (n : Int) - 1 by omega]) (by rw [hSK]) (by rw [← hn]; exact hS) (fun k hk => by have := hl k hk; omega) w ht
  rw [hSK] at this
  exact this
end Go.Proofs.YtienedhaogjahaaGreatDoor
namespace Go.Proofs.YtienedhaogjahaaGreatDoor
open Go.RowKit

structure TDS (w : World) (p : Option Addr) (b off : Nat) (ts : List Trm) : Prop where
  at_ : 0 < ts.length → p = some ⟨b, off, none⟩
  lt : 0 < ts.length → b < w.heap.size
  c0 : ∀ i < ts.length, w.cell? ⟨b, off + i * 11, none⟩ = some (.int .i64 (ts.getD i trm0).kind)
  c1 : ∀ i < ts.length, w.cell? ⟨b, off + i * 11 + 1, none⟩ = some (.int .i64 (ts.getD i trm0).a)
  c2 : ∀ i < ts.length, w.cell? ⟨b, off + i * 11 + 2, none⟩ = some (.int .i64 (ts.getD i trm0).b)
  c3 : ∀ i < ts.length, w.cell? ⟨b, off + i * 11 + 3, none⟩ = some (.int .u64 (ts.getD i trm0).x)
  c4 : ∀ i < ts.length, w.cell? ⟨b, off + i * 11 + 4, none⟩ = some (.int .u64 (ts.getD i trm0).y)
  c5 : ∀ i < ts.length, w.cell? ⟨b, off + i * 11 + 5, none⟩ = some (.int .i64 (ts.getD i trm0).day)
  c6 : ∀ i < ts.length, w.cell? ⟨b, off + i * 11 + 6, none⟩ = some (.int .i64 (ts.getD i trm0).to)
  c7 : ∀ i < ts.length, w.cell? ⟨b, off + i * 11 + 7, none⟩ = some (.int .i64 (ts.getD i trm0).cur)
  c8 : ∀ i < ts.length, w.cell? ⟨b, off + i * 11 + 8, none⟩ = some (.int .i64 (ts.getD i trm0).count)
  c9 : ∀ i < ts.length, w.cell? ⟨b, off + i * 11 + 9, none⟩ = some (.int .i64 (ts.getD i trm0).n)
  c10 : ∀ i < ts.length, w.cell? ⟨b, off + i * 11 + 10, none⟩ = some (.int .i64 (ts.getD i trm0).months)
theorem TDS.below {w w' : World} {p : Option Addr} {b off : Nat} {ts : List Trm} (h : TDS w p b off ts) (hb : Below w.heap.size w w') : TDS w' p b off ts := by
  have k : ∀ i, i < ts.length → ∀ j, w'.cell? ⟨b, j, none⟩ = w.cell? ⟨b, j, none⟩ := fun i hi j => World.cell?_of_block (w := w) (a := ⟨b, j, none⟩) (hb.block b (h.lt (by omega)))
  exact ⟨h.at_, fun hn => Nat.lt_of_lt_of_le (h.lt hn) hb.size, fun i hi => (k i hi _).trans (h.c0 i hi), fun i hi => (k i hi _).trans (h.c1 i hi), fun i hi => (k i hi _).trans (h.c2 i hi), fun i hi => (k i hi _).trans (h.c3 i hi), fun i hi => (k i hi _).trans (h.c4 i hi), fun i hi => (k i hi _).trans (h.c5 i hi), fun i hi => (k i hi _).trans (h.c6 i hi), fun i hi => (k i hi _).trans (h.c7 i hi), fun i hi => (k i hi _).trans (h.c8 i hi), fun i hi => (k i hi _).trans (h.c9 i hi), fun i hi => (k i hi _).trans (h.c10 i hi)⟩
theorem trD_size (t : Trm) : (trD t).size = 11 := rfl
theorem trD_one (t : Trm) : ∀ u ∈ (trD t).toList, u.oneCell' = true := fun u h => by
  simp only [trD, List.mem_cons, List.not_mem_nil, or_false] at h
  rcases h with rfl | rfl | rfl | rfl | rfl | rfl | rfl | rfl | rfl | rfl | rfl <;> rfl
theorem info_trD : (Tryz.prog.info? 64).map (fun i => (i.zero, i.size, i.bytes)) = some (some (.agg #[.int .i64 0, .int .i64 0, .int .i64 0, .int .u64 0, .int .u64 0, .int .i64 0, .int .i64 0, .int .i64 0, .int .i64 0, .int .i64 0, .int .i64 0]), 11, 88) := by kernel_rfl
theorem tds_of {w : World} {B n c : Nat} {p : Option Addr} {l : List Trm} (h : w.ownsRow B 64 11 (.slice p n c) n (rowV trD l)) (hn : l.length = n) : ∃ g, TDS w p g 0 l := by
  obtain ⟨p', c', g, hv, _, _, hp, _, hb, hc, _⟩ := orow_src h
  injection hv with hv1 hv2 hv3
  subst hv1 hv3
  have hg : ∀ i < l.length, ∀ j < 11, w.cell? ⟨g, i * 11 + j, none⟩ = (trD (l.getD i trm0))[j]? := fun i hi j hj => by
    rw [hc _ (by omega), rowV_get trD_size trm0 l i j hi hj]
  refine ⟨g, ⟨fun h => hp (by omega), fun h => (hb _ (hp (by omega))).2.2, ?_, ?_, ?_, ?_, ?_, ?_, ?_, ?_, ?_, ?_, ?_⟩⟩ <;> intro i hi <;> rw [Nat.zero_add]
  · exact hg i hi 0 (by decide)
  · exact hg i hi 1 (by decide)
  · exact hg i hi 2 (by decide)
  · exact hg i hi 3 (by decide)
  · exact hg i hi 4 (by decide)
  · exact hg i hi 5 (by decide)
  · exact hg i hi 6 (by decide)
  · exact hg i hi 7 (by decide)
  · exact hg i hi 8 (by decide)
  · exact hg i hi 9 (by decide)
  · exact hg i hi 10 (by decide)
theorem takeT_next (l : List Trm) (k : Nat) (hk : k < l.length) : l.take (k + 1) = l.take k ++ [l.getD k trm0] := by
  rw [List.take_add_one, List.getElem?_eq_getElem hk]
  simp [List.getD, List.getElem?_eq_getElem hk]
set_option maxRecDepth 20000 in
set_option maxHeartbeats 12800000 in
theorem r17Of_any (l : List Trm) (N : Nat) (p : Option Addr) (b off c : Nat) (w : World) (hl : TSrc w p b off l) (hN : l.length = N) (hc : N * 88 ≤ 140737488355328) :
    Calls Tryz.prog 10 #[.slice p N c] w fun e w' => (∃ q cp, e = .returned (.slice q N cp) ∧ w'.ownsRow w.heap.size 64 11 (.slice q N cp) N (rowV trD l)) ∧ Below w.heap.size w w' := by
  have HN := hidD hN
  have HQ := hidD hl
  have HP : Hid (0 < N → p = some ⟨b, off, none⟩) := fun h => hl.at_ (by omega)
  have HC := hidD hc
  have hc2 : N ≤ 140737488355328 := by omega
  have hst := store_fltD
  have HO0 := hidD (orow_nil w.heap.size w 64 11)
  clear hl hN hc
  go_enter Tryz.func10, Tryz.ntmps10
  go_wp2_with fail
  go_loopw [3, 4] (fun g i wr => ∃ (k : Nat) (q : Option Addr) (cp : Nat), k ≤ N ∧ i = .int .i64 k ∧ g = .slice q k cp ∧ Hid (wr.ownsRow w.heap.size 64 11 (.slice q k cp) k (rowV trD (l.take k))) ∧ Hid (Below w.heap.size w wr)) (fun _ i _ => N - (intOf i).toNat)
  case atStart => exact ⟨0, none, 0, Nat.zero_le _, rfl, rfl, HO0, Below.refl _ _⟩
  case round =>
    clear HO0
    obtain ⟨k, q, cp, hk, rfl, rfl, HO, HB⟩ := hrel
    by_cases hlt : k < N
    · obtain rfl := HP.out (by omega)
      have hlt' : k < l.length := by rw [HN.out]; exact hlt
      have HQr := HQ.out.below HB.out
      have c0 := HQr.c0 k hlt'
      have c1 := HQr.c1 k hlt'
      have c2 := HQr.c2 k hlt'
      have c3 := HQr.c3 k hlt'
      have c4 := HQr.c4 k hlt'
      have c5 := HQr.c5 k hlt'
      have c6 := HQr.c6 k hlt'
      have c7 := HQr.c7 k hlt'
      have c8 := HQr.c8 k hlt'
      have c9 := HQr.c9 k hlt'
      have c10 := HQr.c10 k hlt'
      have hbl : b < wr.heap.size := Nat.lt_of_lt_of_le (HQ.out.lt (by rw [HN.out]; omega)) HB.out.size
      have HS : Hid (rowV trD (l.take (k + 1)) = rowV trD (l.take k) ++ rowV trD [l.getD k trm0]) := by
        show _ = _
        rw [takeT_next l k hlt', rowV_append]
      obtain ⟨f, hf⟩ : ∃ f, l.getD k trm0 = f := ⟨_, rfl⟩
      rw [hf] at HS c0 c1 c2 c3 c4 c5 c6 c7 c8 c9 c10
      clear hf HQr hlt'
      obtain ⟨qk, qa, qb, qx, qy, qd, qt, qc, qo, qn, qm⟩ := f
      dsimp only at *
      have hbn : b ≠ wr.heap.size := Nat.ne_of_lt hbl
      have g3 : (0 : Int) ≤ (k : Int) := by omega
      have g4 : (k : Int) < (N : Int) := by omega
      go_wp2_with fail
      have HT1 : Hid ((wr.alloc (.cells #[.int .i64 qk, .int .i64 qa, .int .i64 qb, .float .f64 qx, .float .f64 qy, .int .i64 qd, .int .i64 qt, .int .i64 qc, .int .i64 qo, .int .i64 qn, .int .i64 qm] 50)).heap[wr.heap.size]? = some (.cells #[.int .i64 qk, .int .i64 qa, .int .i64 qb, .float .f64 qx, .float .f64 qy, .int .i64 qd, .int .i64 qt, .int .i64 qc, .int .i64 qo, .int .i64 qn, .int .i64 qm] 50)) := heap_alloc_new _ _
      have HBa : Hid (Below wr.heap.size wr (wr.alloc (.cells #[.int .i64 qk, .int .i64 qa, .int .i64 qb, .float .f64 qx, .float .f64 qy, .int .i64 qd, .int .i64 qt, .int .i64 qc, .int .i64 qo, .int .i64 qn, .int .i64 qm] 50))) := (Below.refl _ _).alloc (Nat.le_refl _) _
      have hs1 : (wr.alloc (.cells #[.int .i64 qk, .int .i64 qa, .int .i64 qb, .float .f64 qx, .float .f64 qy, .int .i64 qd, .int .i64 qt, .int .i64 qc, .int .i64 qo, .int .i64 qn, .int .i64 qm] 50)).heap.size = wr.heap.size + 1 := by simp
      obtain ⟨R, hR⟩ : ∃ R, wr.heap.size = R := ⟨_, rfl⟩
      obtain ⟨w1, hw1⟩ : ∃ w1, wr.alloc (.cells #[.int .i64 qk, .int .i64 qa, .int .i64 qb, .float .f64 qx, .float .f64 qy, .int .i64 qd, .int .i64 qt, .int .i64 qc, .int .i64 qo, .int .i64 qn, .int .i64 qm] 50) = w1 := ⟨_, rfl⟩
      rw [hw1] at HT1 HBa hs1 ⊢
      have HR := hidD hs1
      have hRR := hidD hR
      rw [hR] at HT1 ⊢
      have HB1 := hidD (HB.out.trans (HBa.out.mono HB.out.size))
      have HO1 := hidD (orow_below HO.out HBa.out)
      have HNe : Hid (some R ≠ (Value.slice q k cp).ownBlock) := fun e => by have := (HO.out.lt R e.symm).2; have := hRR.out; omega
      clear hw1 hR hs1 c0 c1 c2 c3 c4 c5 c6 c7 c8 c9 c10 hbl hbn HB HO HBa
      have z0 := (opx_cells HT1.out 0 rfl).1
      have z1 := (opx_cells HT1.out 1 rfl).1
      have z2 := (opx_cells HT1.out 2 rfl).1
      have z3 := (opx_cells HT1.out 3 rfl).1
      have z4 := (opx_cells HT1.out 4 rfl).1
      have z5 := (opx_cells HT1.out 5 rfl).1
      have z6 := (opx_cells HT1.out 6 rfl).1
      have z7 := (opx_cells HT1.out 7 rfl).1
      have z8 := (opx_cells HT1.out 8 rfl).1
      have z9 := (opx_cells HT1.out 9 rfl).1
      have z10 := (opx_cells HT1.out 10 rfl).1
      have HBw := hidD ((Below.refl w1.heap.size w1).drew.alloc (Nat.le_refl _) (.cells #[.int .i64 qk, .int .i64 qa, .int .i64 qb, .int .u64 (qx : Int), .int .u64 (qy : Int), .int .i64 qd, .int .i64 qt, .int .i64 qc, .int .i64 qo, .int .i64 qn, .int .i64 qm] 64))
      have HO4 := hidD (orow_below HO1.out HBw.out)
      have HB4 := hidD (HB1.out.trans (HBw.out.mono HB1.out.size))
      have HFc : Hid (∀ j u, (rowV trD [⟨qk, qa, qb, qx, qy, qd, qt, qc, qo, qn, qm⟩])[j]? = some u → (w1.drew.alloc (.cells #[.int .i64 qk, .int .i64 qa, .int .i64 qb, .int .u64 (qx : Int), .int .u64 (qy : Int), .int .i64 qd, .int .i64 qt, .int .i64 qc, .int .i64 qo, .int .i64 qn, .int .i64 qm] 64)).cell? ⟨w1.heap.size, j, none⟩ = some u) := by
        intro j u hj
        have e : rowV trD [⟨qk, qa, qb, qx, qy, qd, qt, qc, qo, qn, qm⟩] = (#[.int .i64 qk, .int .i64 qa, .int .i64 qb, .int .u64 (qx : Int), .int .u64 (qy : Int), .int .i64 qd, .int .i64 qt, .int .i64 qc, .int .i64 qo, .int .i64 qn, .int .i64 qm] : Array Value).toList := by simp [rowV, trD]
        rw [e] at hj
        exact new_cells w1.drew _ 64 j u hj
      have HK : Hid ((w1.drew.alloc (.cells #[.int .i64 qk, .int .i64 qa, .int .i64 qb, .int .u64 (qx : Int), .int .u64 (qy : Int), .int .i64 qd, .int .i64 qt, .int .i64 qc, .int .i64 qo, .int .i64 qn, .int .i64 qm] 64)).cell? ⟨R, 0, none⟩ = some (.int .i64 qk) ∧ (w1.drew.alloc (.cells #[.int .i64 qk, .int .i64 qa, .int .i64 qb, .int .u64 (qx : Int), .int .u64 (qy : Int), .int .i64 qd, .int .i64 qt, .int .i64 qc, .int .i64 qo, .int .i64 qn, .int .i64 qm] 64)).cell? ⟨R, 1, none⟩ = some (.int .i64 qa) ∧ (w1.drew.alloc (.cells #[.int .i64 qk, .int .i64 qa, .int .i64 qb, .int .u64 (qx : Int), .int .u64 (qy : Int), .int .i64 qd, .int .i64 qt, .int .i64 qc, .int .i64 qo, .int .i64 qn, .int .i64 qm] 64)).cell? ⟨R, 2, none⟩ = some (.int .i64 qb) ∧ (w1.drew.alloc (.cells #[.int .i64 qk, .int .i64 qa, .int .i64 qb, .int .u64 (qx : Int), .int .u64 (qy : Int), .int .i64 qd, .int .i64 qt, .int .i64 qc, .int .i64 qo, .int .i64 qn, .int .i64 qm] 64)).cell? ⟨R, 3, none⟩ = some (.float .f64 qx) ∧ (w1.drew.alloc (.cells #[.int .i64 qk, .int .i64 qa, .int .i64 qb, .int .u64 (qx : Int), .int .u64 (qy : Int), .int .i64 qd, .int .i64 qt, .int .i64 qc, .int .i64 qo, .int .i64 qn, .int .i64 qm] 64)).cell? ⟨R, 4, none⟩ = some (.float .f64 qy) ∧ (w1.drew.alloc (.cells #[.int .i64 qk, .int .i64 qa, .int .i64 qb, .int .u64 (qx : Int), .int .u64 (qy : Int), .int .i64 qd, .int .i64 qt, .int .i64 qc, .int .i64 qo, .int .i64 qn, .int .i64 qm] 64)).cell? ⟨R, 5, none⟩ = some (.int .i64 qd) ∧ (w1.drew.alloc (.cells #[.int .i64 qk, .int .i64 qa, .int .i64 qb, .int .u64 (qx : Int), .int .u64 (qy : Int), .int .i64 qd, .int .i64 qt, .int .i64 qc, .int .i64 qo, .int .i64 qn, .int .i64 qm] 64)).cell? ⟨R, 6, none⟩ = some (.int .i64 qt) ∧ (w1.drew.alloc (.cells #[.int .i64 qk, .int .i64 qa, .int .i64 qb, .int .u64 (qx : Int), .int .u64 (qy : Int), .int .i64 qd, .int .i64 qt, .int .i64 qc, .int .i64 qo, .int .i64 qn, .int .i64 qm] 64)).cell? ⟨R, 7, none⟩ = some (.int .i64 qc) ∧ (w1.drew.alloc (.cells #[.int .i64 qk, .int .i64 qa, .int .i64 qb, .int .u64 (qx : Int), .int .u64 (qy : Int), .int .i64 qd, .int .i64 qt, .int .i64 qc, .int .i64 qo, .int .i64 qn, .int .i64 qm] 64)).cell? ⟨R, 8, none⟩ = some (.int .i64 qo) ∧ (w1.drew.alloc (.cells #[.int .i64 qk, .int .i64 qa, .int .i64 qb, .int .u64 (qx : Int), .int .u64 (qy : Int), .int .i64 qd, .int .i64 qt, .int .i64 qc, .int .i64 qo, .int .i64 qn, .int .i64 qm] 64)).cell? ⟨R, 9, none⟩ = some (.int .i64 qn) ∧ (w1.drew.alloc (.cells #[.int .i64 qk, .int .i64 qa, .int .i64 qb, .int .u64 (qx : Int), .int .u64 (qy : Int), .int .i64 qd, .int .i64 qt, .int .i64 qc, .int .i64 qo, .int .i64 qn, .int .i64 qm] 64)).cell? ⟨R, 10, none⟩ = some (.int .i64 qm)) := by
        refine ⟨?_, ?_, ?_, ?_, ?_, ?_, ?_, ?_, ?_, ?_, ?_⟩ <;> (rw [World.cell?_of_block (w := w1) (HBw.out.block _ (by rw [HR.out]; rw [← hRR.out]; exact Nat.lt_succ_self _))]; assumption)
      have HKf : Hid (∀ x : World, x.heap[R]? = (w1.drew.alloc (.cells #[.int .i64 qk, .int .i64 qa, .int .i64 qb, .int .u64 (qx : Int), .int .u64 (qy : Int), .int .i64 qd, .int .i64 qt, .int .i64 qc, .int .i64 qo, .int .i64 qn, .int .i64 qm] 64)).heap[R]? → x.cell? ⟨R, 0, none⟩ = some (.int .i64 qk) ∧ x.cell? ⟨R, 1, none⟩ = some (.int .i64 qa) ∧ x.cell? ⟨R, 2, none⟩ = some (.int .i64 qb) ∧ x.cell? ⟨R, 3, none⟩ = some (.float .f64 qx) ∧ x.cell? ⟨R, 4, none⟩ = some (.float .f64 qy) ∧ x.cell? ⟨R, 5, none⟩ = some (.int .i64 qd) ∧ x.cell? ⟨R, 6, none⟩ = some (.int .i64 qt) ∧ x.cell? ⟨R, 7, none⟩ = some (.int .i64 qc) ∧ x.cell? ⟨R, 8, none⟩ = some (.int .i64 qo) ∧ x.cell? ⟨R, 9, none⟩ = some (.int .i64 qn) ∧ x.cell? ⟨R, 10, none⟩ = some (.int .i64 qm)) := fun x hx => by
        obtain ⟨k0, k1, k2, k3, k4, k5, k6, k7, k8, k9, k10⟩ := HK.out
        exact ⟨(World.cell?_of_block (a := ⟨R, 0, none⟩) hx).trans k0, (World.cell?_of_block (a := ⟨R, 1, none⟩) hx).trans k1, (World.cell?_of_block (a := ⟨R, 2, none⟩) hx).trans k2, (World.cell?_of_block (a := ⟨R, 3, none⟩) hx).trans k3, (World.cell?_of_block (a := ⟨R, 4, none⟩) hx).trans k4, (World.cell?_of_block (a := ⟨R, 5, none⟩) hx).trans k5, (World.cell?_of_block (a := ⟨R, 6, none⟩) hx).trans k6, (World.cell?_of_block (a := ⟨R, 7, none⟩) hx).trans k7, (World.cell?_of_block (a := ⟨R, 8, none⟩) hx).trans k8, (World.cell?_of_block (a := ⟨R, 9, none⟩) hx).trans k9, (World.cell?_of_block (a := ⟨R, 10, none⟩) hx).trans k10⟩
      have hRl : R < (w1.drew.alloc (.cells #[.int .i64 qk, .int .i64 qa, .int .i64 qb, .int .u64 (qx : Int), .int .u64 (qy : Int), .int .i64 qd, .int .i64 qt, .int .i64 qc, .int .i64 qo, .int .i64 qn, .int .i64 qm] 64)).heap.size := by have := HR.out; have := hRR.out; simp; omega
      have HRl := hidD hRl
      clear hRl
      go_region_held3 (fun x => x.cell? ⟨R, 0, none⟩ = some (.int .i64 qk) ∧ x.cell? ⟨R, 1, none⟩ = some (.int .i64 qa) ∧ x.cell? ⟨R, 2, none⟩ = some (.int .i64 qb) ∧ x.cell? ⟨R, 3, none⟩ = some (.float .f64 qx) ∧ x.cell? ⟨R, 4, none⟩ = some (.float .f64 qy) ∧ x.cell? ⟨R, 5, none⟩ = some (.int .i64 qd) ∧ x.cell? ⟨R, 6, none⟩ = some (.int .i64 qt) ∧ x.cell? ⟨R, 7, none⟩ = some (.int .i64 qc) ∧ x.cell? ⟨R, 8, none⟩ = some (.int .i64 qo) ∧ x.cell? ⟨R, 9, none⟩ = some (.int .i64 qn) ∧ x.cell? ⟨R, 10, none⟩ = some (.int .i64 qm)) (first | exact HK.out | exact HK5.out | go_keep) (first | (go_at_call 25; (with_reducible refine (turned (bits_any qx _)).mono ?_); rintro e wb ⟨rfl, rfl⟩) | (go_at_call 25; (with_reducible refine (turned (bits_any qy _)).mono ?_); rintro e wb ⟨rfl, rfl⟩) | (refine step_append_g Tryz.underlying31 info_trD rfl (by decide) rfl (.tmp 16) (.tmp 42) rfl w.heap.size (.slice q k cp) k (rowV trD (l.take k)) rfl HO4.out HB4.out.size w1.heap.size 1 1 (rowV trD [⟨qk, qa, qb, qx, qy, qd, qt, qc, qo, qn, qm⟩]) rfl rfl HFc.out (rowV_one trD_one _) (by omega) (by have := HC.out; omega) ?_; intro v5 w5 ho5 hg5; rw [← HS.out] at ho5; have HB5 := hidD (HB4.out.trans (orow_grown HO4.out hg5 HB4.out.size)); obtain ⟨q5, k5, g5, hv5, _, _, hp5, _⟩ := orow_src ho5; obtain rfl := hp5 (by omega); subst hv5; clear hp5; have HO5 := hidD ho5; have HK5 := hidD (HKf.out w5 (hg5.block R HRl.out HNe.out)); clear ho5 hg5))
      all_goals
        go_wp2_with fail
        go_roundw
        case rel => exact ⟨k + 1, some ⟨g5, 0, none⟩, k5, by omega, by go_num, rfl, HO5, HB5⟩
        case measure => simp [intOf]; omega
    · obtain rfl : k = N := by omega
      go_wp2_with fail
      go_ret
      refine ⟨⟨_, _, rfl, ?_⟩, HB.out⟩
      have := HO.out
      rw [← HN.out, List.take_length, HN.out] at this
      exact this
theorem eqT_refl (p : Trm) : eqT p p = true := by simp [eqT]
theorem eqT_nrun (p q : Trm) (w : World) : (binOp .neq 64 (.agg (trD p)) (.agg (trD q))).run Tryz.prog w = .ok (.bool (!(eqT p q))) w := by
  have h := eqT_run p q w
  rw [run_eql_struct] at h
  rw [run_neq_struct]
  generalize (Op.equalIn 10000 64 (.agg (trD p)) (.agg (trD q))).run Tryz.prog w = z at h ⊢
  cases z with
  | ok b w' =>
    have h' : Result.ok (Value.bool b) w' = Result.ok (Value.bool (eqT p q)) w := h
    injection h' with h1 h2
    injection h1 with h1
    subst h1 h2
    rfl
  | _ => cases h
set_option maxRecDepth 20000 in
set_option maxHeartbeats 12800000 in
theorem r17Same_same (l : List Trm) (N : Nat) (p q : Option Addr) (b off c g off' c' : Nat) (w : World) (hl : TSrc w p b off l) (hm : TDS w q g off' l) (hN : l.length = N) (hc : N * 88 ≤ 140737488355328) :
    Calls Tryz.prog 15 #[.slice p N c, .slice q N c'] w fun e w' => e = .returned (.bool true) ∧ Below w.heap.size w w' := by
  have HO := hidD (r17Of_any l N p b off c w hl hN hc)
  have HS := hidD (And.intro hm hN)
  have hc2 : N ≤ 140737488355328 := by omega
  clear hl hm hc hN
  go_enter Tryz.func15, Tryz.ntmps15
  go_wp2_with fail
  refine HO.out.mono ?_
  rintro e w1 ⟨⟨k0, cq, rfl, ho⟩, hb⟩
  obtain ⟨g2, hd⟩ := tds_of ho HS.out.2
  have H1 := hidD (And.intro hb hd)
  clear ho hb hd HO
  go_wp2_with fail
  go_loopw [6] (fun i wr => ∃ k : Nat, k ≤ N ∧ i = .int .i64 k ∧ Hid (Below w.heap.size w wr) ∧ Hid (TDS wr k0 g2 0 l)) (fun i _ => N - (intOf i).toNat)
  case atStart => exact ⟨0, Nat.zero_le _, rfl, H1.out.1, H1.out.2⟩
  case round =>
    obtain ⟨k, hk, rfl, HB, HD⟩ := hrel
    by_cases hlt : k < N
    · have hlt' : k < l.length := by rw [HS.out.2]; exact hlt
      have HSr := hidD (HS.out.1.below HB.out)
      obtain rfl := HSr.out.at_ (by omega)
      obtain rfl := HD.out.at_ (by omega)
      have c0 := HSr.out.c0 k hlt'
      have d0 := HD.out.c0 k hlt'
      have c1 := HSr.out.c1 k hlt'
      have d1 := HD.out.c1 k hlt'
      have c2 := HSr.out.c2 k hlt'
      have d2 := HD.out.c2 k hlt'
      have c3 := HSr.out.c3 k hlt'
      have d3 := HD.out.c3 k hlt'
      have c4 := HSr.out.c4 k hlt'
      have d4 := HD.out.c4 k hlt'
      have c5 := HSr.out.c5 k hlt'
      have d5 := HD.out.c5 k hlt'
      have c6 := HSr.out.c6 k hlt'
      have d6 := HD.out.c6 k hlt'
      have c7 := HSr.out.c7 k hlt'
      have d7 := HD.out.c7 k hlt'
      have c8 := HSr.out.c8 k hlt'
      have d8 := HD.out.c8 k hlt'
      have c9 := HSr.out.c9 k hlt'
      have d9 := HD.out.c9 k hlt'
      have c10 := HSr.out.c10 k hlt'
      have d10 := HD.out.c10 k hlt'
      simp only [Nat.zero_add] at d0 d1 d2 d3 d4 d5 d6 d7 d8 d9 d10
      have heq := fun w => eqT_nrun (l.getD k trm0) (l.getD k trm0) w
      rw [eqT_refl] at heq
      generalize l.getD k trm0 = o at *
      unfold trD at heq
      have i1 : (k : Int) < (N : Int) := by omega
      clear hlt'
      go_wp2_with fail
      go_quiet (fail)
      go_wp2_with fail
      go_roundw
      case rel => exact ⟨k + 1, by omega, by simp, below_drewNm HB.out, HD.out.below (below_drewNm (Below.refl _ _))⟩
      case measure => simp [intOf]; omega
    · obtain rfl : k = N := by omega
      go_wp2_with fail
      go_ret
      exact ⟨rfl, HB.out⟩
end Go.Proofs.YtienedhaogjahaaGreatDoor
