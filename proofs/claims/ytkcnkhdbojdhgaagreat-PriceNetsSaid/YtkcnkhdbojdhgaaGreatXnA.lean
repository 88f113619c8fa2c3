/- Netting flows of which no two share day and currency: plain. -/
import Derived.Test.YtkcnkhdbojdhgaaGreatHbl
import Derived.Test.YtkcnkhdbojdhgaaGreatJfS
import Derived.Test.YtkcnkhdbojdhgaaGreatDblA
namespace Go.Proofs.YtkcnkhdbojdhgaaGreat
open Go.RowKit

theorem unit_vN {b K : Nat} (hK : K = 1074) (hb : b < 18446744073709551616) (h : NumB b) : A.unitI (b : Int) = vI b * ((2 ^ K : Nat) : Int) := by
  obtain ⟨_, q, e1, f1⟩ := spl_vI hb h
  unfold A.unitI
  rw [← e1]
  by_cases h1 : splM (b : Int) = 0
  · rw [h1, Int.zero_mul, Int.zero_mul, Int.zero_mul]
  · have a := f1 h1
    have e : (splE (b : Int) + 2148).toNat = q + K := by omega
    rw [e, Int.pow_add, Int.natCast_pow, Int.natCast_pow, Int.mul_assoc]; rfl
theorem rnd_own {r K : Nat} (hK : K = 1074) (hr : r < 9218868437227405312) : rndI ((V r : Int) * ((2 ^ K : Nat) : Int)) (-2148) = r := by
  have hk := nearR_V hr K
  rw [show (-1074 - ((K : Nat) : Int)) = -2148 by omega] at hk
  have e : (V r : Int) * ((2 ^ K : Nat) : Int) = ((V r * 2 ^ K : Nat) : Int) := (Int.natCast_mul _ _).symm
  rw [e]
  unfold rndI
  by_cases h0 : ((V r * 2 ^ K : Nat) : Int) = 0
  · rw [if_pos h0]
    have h1 : V r * 2 ^ K = 0 := by omega
    rw [h1, nearR_zero (by omega)] at hk
    omega
  · rw [if_neg h0, if_neg (by omega), Int.natAbs_natCast, hk]
theorem val_one {b : Nat} (hb : b < 18446744073709551616) (h : finB (b : Int) = true) : valF (A.unitI (b : Int)) < 18446744073709551616 ∧ finB (valF (A.unitI (b : Int)) : Int) = true ∧ vI (valF (A.unitI (b : Int))) = vI b := by
  have hn := numB_fin h
  obtain ⟨K, hK⟩ : ∃ K, K = 1074 := ⟨_, rfl⟩
  have hR := valF_rank (A.unitI (b : Int))
  rw [unit_vN hK hb hn] at hR
  have key : rndI (vI b * ((2 ^ K : Nat) : Int)) (-2148) = rankI (b : Nat) := by
    have hr : b % 9223372036854775808 < 9218868437227405312 := hn
    rcases vI_rank hb hn with ⟨_, e, r⟩ | ⟨_, e, r⟩
    · rw [e, r, rnd_own hK hr]
    · rw [e, r, Int.neg_mul, rnd_neg, rnd_own hK hr]
  rw [key] at hR
  rw [unit_vN hK hb hn]
  have hb2 : RkW b (rankI (b : Nat)) := ⟨rfl, hb, num_nan hn⟩
  refine ⟨hR.2.1, ?_, ?_⟩
  · have hlo : -9218868437227405312 < rankI (b : Nat) ∧ rankI (b : Nat) < 9218868437227405312 := by
      have hr : b % 9223372036854775808 < 9218868437227405312 := hn
      rcases vI_rank hb hn with ⟨_, _, r⟩ | ⟨_, _, r⟩ <;> omega
    have := num_rank hR hlo.1 hlo.2
    unfold NumB at this
    unfold finB szI
    rw [decide_eq_true_eq]; omega
  · rw [vI_rk hR, vI_rk hb2]
theorem sum_none (l : List Flw) (x : Int × Int) : ∀ k, (∀ i < k, keyF (l.getD i flw0) ≠ x) → sumN l x k = ⟨0, 0⟩
  | 0, _ => rfl
  | k + 1, h => by
    show (if keyF (l.getD k flw0) = x then _ else _) = _
    rw [if_neg (h k (by omega)), sum_none l x k (fun i hi => h i (by omega))]
theorem sum_one (l : List Flw) (x : Int × Int) (i : Nat) (hx : keyF (l.getD i flw0) = x) : ∀ k, i < k → (∀ j < k, j ≠ i → keyF (l.getD j flw0) ≠ x) → sumN l x k = (⟨0, 0⟩ : A.St).merge (A.oneS ((l.getD i flw0).am : Int))
  | 0, h, _ => by omega
  | k + 1, h, hj => by
    show (if keyF (l.getD k flw0) = x then _ else _) = _
    by_cases e : k = i
    · subst e
      rw [if_pos hx, sum_none l x k (fun i hi => hj i (by omega) (by omega))]
    · rw [if_neg (hj k (by omega) e), sum_one l x i hx k (by omega) (fun j hj' hne => hj j (by omega) hne)]
def DistK (l : List Flw) : Prop := ∀ i < l.length, ∀ j < i, ¬ ((l.getD i flw0).day = (l.getD j flw0).day ∧ (l.getD i flw0).cur = (l.getD j flw0).cur)
theorem DistK.ne {l : List Flw} (h : DistK l) {i j : Nat} (hi : i < l.length) (hj : j < l.length) (hne : j ≠ i) : keyF (l.getD j flw0) ≠ keyF (l.getD i flw0) := fun e => by
  unfold keyF at e
  injection e with e1 e2
  rcases Nat.lt_or_gt_of_ne hne with c | c
  · exact h i hi j c ⟨e2.symm, e1.symm⟩
  · exact h j hj i c ⟨e2, e1⟩
theorem net_one {l : List Flw} (hd : DistK l) (hf : FitJ l) {f : Flw} (hm : f ∈ l) (hb : badF f = 0) : netA l (keyF f) < 18446744073709551616 ∧ finB (netA l (keyF f) : Int) = true ∧ vI (netA l (keyF f)) = vI f.am := by
  obtain ⟨i, hi, rfl⟩ := mem_getDF hm
  have h64 := hf i
  have hn := bad_am hb
  have e : netA l (keyF (l.getD i flw0)) = valF (A.unitI ((l.getD i flw0).am : Int)) := by
    unfold netA
    rw [sum_one l _ i rfl l.length hi (fun j hj hne => hd.ne hi hj hne)]
    have e2 : A.oneS ((l.getD i flw0).am : Int) = ⟨0, A.unitI ((l.getD i flw0).am : Int)⟩ := by
      unfold A.oneS
      have : splOk ((l.getD i flw0).am : Int) = true := hn
      rw [this, if_pos rfl]
    rw [e2, merge_ints, Int.zero_add, valSt_int]
  rw [e]
  exact val_one h64 hn
theorem netN_map {l : List Flw} {S : List (Int × Int)} : ∀ {k : Nat} {m : List Flw}, k ≤ S.length → netN l S k = some m → m = (S.take k).map (netF l)
  | 0, m, _, h => by
    obtain rfl : [] = m := by simpa [netN] using h
    simp
  | k + 1, m, hk, h => by
    unfold netN at h
    cases hm : netN l S k with
    | none => rw [hm] at h; cases h
    | some m' =>
      rw [hm, Option.bind_some] at h
      cases hf : netO l (S.getD k key0) with
      | none => rw [hf] at h; cases h
      | some f =>
        rw [hf, Option.map_some] at h
        obtain rfl : m' ++ [f] = m := Option.some.inj h
        have e1 : netF l (S.getD k key0) = f := by
          unfold netO at hf
          split at hf
          · exact Option.some.inj hf
          · cases hf
        have e2 : S.getD k key0 = S[k] := by simp [List.getD, List.getElem?_eq_getElem (show k < S.length by omega)]
        rw [List.take_succ_eq_append_getElem (by omega), List.map_append, ← netN_map (by omega) hm, ← e1, e2]
        rfl
theorem wsI_map {cur : Int} {c : Cv} {g : Flw → Flw} : ∀ {l : List Flw}, (∀ f ∈ l, ctI cur c (g f) = ctI cur c f) → wsI cur c (l.map g) = wsI cur c l
  | [], _ => rfl
  | f :: l, h => by
    simp only [List.map_cons, wsI]
    rw [h f (List.mem_cons_self ..), wsI_map (l := l) (fun x hx => h x (List.mem_cons_of_mem _ hx))]
theorem keys_perm {l : List Flw} {S : List (Int × Int)} (hd : DistK l) (hS : KeyR l S) : S.Perm (l.map keyF) := by
  refine (List.perm_ext_iff_of_nodup hS.len ?_).2 (fun x => ?_)
  · rw [List.Nodup, List.pairwise_iff_getElem]
    intro i j hi hj hij
    rw [List.length_map] at hi hj
    have := hd.ne hj hi (by omega)
    simpa [List.getD, List.getElem?_eq_getElem hi, List.getElem?_eq_getElem hj] using this
  · rw [hS.mem x, List.mem_map]
    constructor
    · rintro ⟨i, hi, e⟩
      exact ⟨_, getD_memF hi, e⟩
    · rintro ⟨f, hf, e⟩
      obtain ⟨i, hi, rfl⟩ := mem_getDF hf
      exact ⟨i, hi, e⟩
theorem net_same {l m : List Flw} {S : List (Int × Int)} {cur : Int} {c : Cv} (hd : DistK l) (h : FineP l cur c) (hf : FitJ l) (hv : c.Fit) (hS : KeyR l S) (hm : netN l S S.length = some m) : FineP m cur c ∧ FitJ m ∧ wsI cur c m = wsI cur c l := by
  have e1 := netN_map (Nat.le_refl _) hm
  rw [List.take_length] at e1
  have hp : m.Perm (l.map (fun f => netF l (keyF f))) := by
    rw [e1]
    have := (keys_perm hd hS).map (netF l)
    rw [List.map_map] at this
    exact this
  have hin : ∀ f ∈ m, ∃ g ∈ l, netF l (keyF g) = f := fun f hf => List.mem_map.1 (hp.mem_iff.1 hf)
  have hbad : ∀ g ∈ l, badF (netF l (keyF g)) = 0 := fun g hg => by
    have hb := h.bad g hg
    have hn := (net_one hd hf hg hb).2.1
    unfold badF at hb ⊢
    show (if ¬ (0 ≤ g.day ∧ g.day ≤ 109572) then _ else if finB (netA l (keyF g) : Int) = false then _ else if ¬ (1 ≤ g.cur ∧ g.cur ≤ 8) then _ else _) = _
    rw [hn]
    split at hb
    · cases hb
    · rename_i h1
      rw [if_neg h1, if_neg (by simp)]
      split at hb
      · cases hb
      · exact hb
  refine ⟨⟨?_, fun f hf => ?_, h.cu, h.ok, fun f hf ht => ?_⟩, fun i => ?_, ?_⟩
  · rw [hp.length_eq, List.length_map]; exact h.len
  · obtain ⟨g, hg, rfl⟩ := hin f hf
    exact hbad g hg
  · obtain ⟨g, hg, rfl⟩ := hin f hf
    exact h.fac g hg ht
  · by_cases hi : i < m.length
    · obtain ⟨g, hg, e⟩ := hin _ (getD_memF hi)
      rw [← e]
      exact (net_one hd hf hg (h.bad g hg)).1
    · rw [List.getD_eq_getElem?_getD, List.getElem?_eq_none (by omega)]; decide
  · rw [wsI_perm hp]
    refine wsI_map fun f hm => ?_
    by_cases ht : tkB cur c.base f = true
    · have ht' : tkB cur c.base (netF l (keyF f)) = true := ht
      obtain ⟨n1, n2, n3⟩ := net_one hd hf hm (h.bad f hm)
      have hE := h.fac f hm ht
      rw [ctI_yes ht, ctI_yes ht', prI_vI h hf hv hm ht]
      unfold prI
      have e := prodS_vI (x := netA l (keyF f)) n1 n2 (Cv.num h.ok hv hE).1 (facV_fin h.ok hv hE)
      rw [n3] at e
      exact e
    · have ht' : tkB cur c.base (netF l (keyF f)) = false := by
        have : tkB cur c.base (netF l (keyF f)) = tkB cur c.base f := rfl
        rw [this]; simpa using ht
      rw [ctI_no ht', ctI_no (by simpa using ht)]
end Go.Proofs.YtkcnkhdbojdhgaaGreat
