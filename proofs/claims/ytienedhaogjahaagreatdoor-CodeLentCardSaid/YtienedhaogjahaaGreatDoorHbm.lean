/- Package code: Trim of any code that may be. Trimmed code in plain words: pieces that are nested well stay as they are. What is kept of a code that may be: pieces that are nested well, with the open marks between them. Trimmed code: it may be, trimmed again it stays, and nothing in it can go. Trimmed code: what CodeLeast asks of it, in plain words. The document's trimming, one thing at a time, in plain words: what it leaves is what the trimmer keeps. -/
import Derived.Test.YtienedhaogjahaaGreatDoorHbl
import Derived.Test.YtienedhaogjahaaGreatDoorHbk
import Derived.Test.YtienedhaogjahaaGreatDoorFlt
namespace Go.Proofs.YtienedhaogjahaaGreatDoor
open Go.RowKit

def trS (o : Opr) (cs : List (Opr × Int)) (ms : List Int) : List (Opr × Int) × List Int :=
  if takO o = true then
    (if (ms.getLastD 0).toNat + 1 = cs.length ∨ trnO o = true then cs.take (ms.getLastD 0).toNat ++ cs.drop ((ms.getLastD 0).toNat + 1)
      else if (o.kind == 4 && gabO (cs.getLastD (opr0, 0)) ((cs.length : Int) - 1) (ms.getLastD 0)) = true then drop3 cs.dropLast (ms.getLastD 0).toNat
      else cs ++ [(o, (cs.length : Int) - ms.getLastD 0)], ms.dropLast)
  else if o.kind = 1 then (cs ++ [(o, 0)], ms ++ [(cs.length : Int)]) else (cs ++ [(o, 0)], ms)
def trF (l : List Opr) : Nat → List (Opr × Int) × List Int
  | 0 => ([], [])
  | k + 1 => trS (l.getD k opr0) (trF l k).1 (trF l k).2
structure TrI (cs : List (Opr × Int)) (ms : List Int) (k : Nat) : Prop where
  inc : ms.Pairwise (· < ·)
  rng : ∀ v ∈ ms, 0 ≤ v ∧ v < cs.length
  bk : ∀ x ∈ cs, 0 ≤ x.2 ∧ x.2 ≤ 90000 ∧ (x.1.kind = 4 → 1 ≤ x.2)
  len : cs.length ≤ k
  mlen : ms.length ≤ k
theorem drop3_mem {r : List (Opr × Int)} {m : Nat} {y : Opr × Int} (h : y ∈ drop3 r m) : y ∈ r := by
  unfold drop3 at h
  rcases List.mem_append.1 h with h | h
  · have h := List.mem_of_mem_take h
    rcases List.mem_append.1 h with h | h
    · exact List.mem_of_mem_take h
    · exact List.mem_of_mem_drop h
  · have h := List.mem_of_mem_drop h
    rcases List.mem_append.1 h with h | h
    · exact List.mem_of_mem_take h
    · exact List.mem_of_mem_drop h
theorem drop3_len {r : List (Opr × Int)} {m : Nat} (h : m + 2 ≤ r.length) : (drop3 r m).length = r.length - 2 := by
  unfold drop3
  have e : (r.take (m + 1) ++ r.drop (m + 1 + 1)).length = r.length - 1 := by rw [List.length_append, List.length_take, List.length_drop]; omega
  rw [List.length_append, List.length_take, List.length_drop, e]
  omega
theorem snoc_of {α : Type} {l : List α} (h : l ≠ []) : ∃ r x, l = r ++ [x] := ⟨l.dropLast, l.getLast h, (List.dropLast_concat_getLast h).symm⟩
theorem trI_step {o : Opr} {cs : List (Opr × Int)} {ms : List Int} {k : Nat} (h : TrI cs ms k) (hk : k ≤ 8192) (hne : takO o = true → ms ≠ []) : TrI (trS o cs ms).1 (trS o cs ms).2 (k + 1) ∧ TStep o cs ms (trS o cs ms) := by
  unfold trS
  by_cases ht : takO o = true
  · rw [if_pos ht]
    obtain ⟨ms0, v, rfl⟩ := snoc_of (hne ht)
    have hv := h.rng v (by simp)
    obtain ⟨m, rfl⟩ : ∃ m : Nat, v = (m : Int) := ⟨v.toNat, by omega⟩
    obtain ⟨r, x, rfl⟩ := snoc_of (l := cs) (fun e => by subst e; simp at hv; omega)
    have hl : (r ++ [x]).length = r.length + 1 := by simp
    have hinc := List.pairwise_append.1 h.inc
    have hlt : ∀ u ∈ ms0, u < (m : Int) := fun u hu => hinc.2.2 u hu _ (by simp)
    have hx := h.bk x (by simp)
    have hlen := h.len
    have hml := h.mlen
    rw [List.length_append, List.length_singleton] at hml
    rw [hl] at hv hlen
    simp only [List.getLastD_concat, List.dropLast_concat, Int.toNat_natCast, hl]
    have hinc0 : ms0.Pairwise (· < ·) := hinc.1
    have key : ∀ cs', (∀ y ∈ cs', y ∈ r ++ [x] ∨ y = (o, (r.length : Int) + 1 - (m : Int))) → m ≤ cs'.length → cs'.length ≤ k + 1 → (o.kind = 4 → (m : Int) < (r.length : Int) + 1) → TrI cs' ms0 (k + 1) := fun cs' hm1 hm2 hm3 _ => ⟨hinc0, fun u hu => ⟨(h.rng u (by simp [hu])).1, by have := hlt u hu; omega⟩, fun y hy => by
      rcases hm1 y hy with hy | rfl
      · exact h.bk y hy
      · exact ⟨by dsimp only; omega, by dsimp only; omega, fun _ => by dsimp only; omega⟩, hm3, by omega⟩
    by_cases hd : m + 1 = r.length + 1 ∨ trnO o = true
    · rw [if_pos hd]
      refine ⟨key _ (fun y hy => .inl ?_) ?_ ?_ (fun _ => by omega), .take _ _ ht fun B b cv mv w t hb => ?_⟩
      · rcases List.mem_append.1 hy with hy | hy
        · exact List.mem_of_mem_take hy
        · exact List.mem_of_mem_drop hy
      · rw [List.length_append, List.length_take, List.length_drop, hl]; omega
      · rw [List.length_append, List.length_take, List.length_drop, hl]; omega
      · exact trTake_drop B b r.length m ms0.length cv mv r x ms0 o w t hb rfl rfl (by omega) (by omega) (by omega) (by rcases hd with h | h; exact .inl (by omega); exact .inr h)
    · rw [if_neg hd]
      have htn : trnO o = false := by
        cases e : trnO o
        · rfl
        · exact absurd (.inr e) hd
      have hmr : m < r.length := by
        rcases Nat.lt_or_ge m r.length with h' | h'
        · exact h'
        · exact absurd (.inl (by omega)) hd
      have eg : ((r.length + 1 : Nat) : Int) - 1 = (r.length : Int) := by omega
      rw [eg]
      have hg := fun B b cv mv w t hb => trTake_gen B b r.length m ms0.length cv mv r x ms0 o w t hb rfl rfl (by omega) (by omega) hmr hx.1 (by omega) hx.2.2 htn
      by_cases hq : (o.kind == 4 && gabO x (r.length : Int) (m : Int)) = true
      · rw [if_pos hq]
        simp only [if_pos hq] at hg
        have hm2 : m + 2 ≤ r.length := by
          rw [Bool.and_eq_true] at hq
          have e := hq.2
          unfold gabO at e
          rw [Bool.and_eq_true, beq_iff_eq, beq_iff_eq] at e
          have := hx.2.2 e.1
          omega
        refine ⟨key _ (fun y hy => .inl (by simp [drop3_mem hy])) ?_ ?_ (fun _ => by omega), .take _ _ ht fun B b cv mv w t hb => hg B b cv mv w t hb⟩
        · rw [drop3_len hm2]; omega
        · rw [drop3_len hm2]; omega
      · rw [if_neg hq]
        simp only [if_neg hq] at hg
        have en : ((r.length + 1 : Nat) : Int) - (m : Int) = (r.length : Int) + 1 - (m : Int) := by omega
        rw [en]
        refine ⟨key _ (fun y hy => ?_) ?_ ?_ (fun _ => by omega), .take _ _ ht fun B b cv mv w t hb => hg B b cv mv w t hb⟩
        · rcases List.mem_append.1 hy with hy | hy
          · exact .inl hy
          · exact .inr (by simpa using hy)
        · rw [List.length_append, hl]; omega
        · rw [List.length_append, hl, List.length_singleton]; omega
  · rw [if_neg ht]
    have ht' : takO o = false := by simpa using ht
    have hlen := h.len
    have hml := h.mlen
    have hb : ∀ x ∈ cs ++ [(o, (0 : Int))], 0 ≤ x.2 ∧ x.2 ≤ 90000 ∧ (x.1.kind = 4 → 1 ≤ x.2) := fun x hx => by
      rcases List.mem_append.1 hx with hx | hx
      · exact h.bk x hx
      · obtain rfl : x = (o, 0) := by simpa using hx
        refine ⟨Int.le_refl _, (by decide : (0 : Int) ≤ 90000), fun h4 => ?_⟩
        have h4' : o.kind = 4 := h4
        unfold takO at ht'
        rw [h4'] at ht'
        exact absurd ht' (by decide)
    by_cases h1 : o.kind = 1
    · rw [if_pos h1]
      refine ⟨⟨?_, ?_, hb, by simp; omega, by simp; omega⟩, .mark h1⟩
      · refine List.pairwise_append.2 ⟨h.inc, List.pairwise_singleton _ _, fun u hu v hv => ?_⟩
        obtain rfl : v = (cs.length : Int) := by simpa using hv
        exact (h.rng u hu).2
      · intro v hv
        rcases List.mem_append.1 hv with hv | hv
        · have := h.rng v hv
          rw [List.length_append, List.length_singleton]
          omega
        · obtain rfl : v = (cs.length : Int) := by simpa using hv
          rw [List.length_append, List.length_singleton]
          omega
    · rw [if_neg h1]
      refine ⟨⟨h.inc, fun v hv => ?_, hb, by simp; omega, by show ms.length ≤ k + 1; omega⟩, .other h1 ht'⟩
      have := h.rng v hv
      rw [List.length_append, List.length_singleton]
      omega
theorem trS_len {o : Opr} {cs : List (Opr × Int)} {ms : List Int} (hne : takO o = true → ms ≠ []) : ((trS o cs ms).2.length : Int) = if o.kind = 1 then (ms.length : Int) + 1 else if takO o then (ms.length : Int) - 1 else (ms.length : Int) := by
  unfold trS
  by_cases ht : takO o = true
  · have h1 : o.kind ≠ 1 := fun e => by
      unfold takO at ht
      rw [e] at ht
      exact absurd ht (by decide)
    have := List.length_pos_iff.2 (hne ht)
    rw [if_pos ht, if_neg h1, if_pos ht, List.length_dropLast]
    omega
  · by_cases h1 : o.kind = 1
    · rw [if_neg ht, if_pos h1, if_pos h1, List.length_append, List.length_singleton]
      omega
    · rw [if_neg ht, if_neg h1, if_neg h1, if_neg ht]
theorem mea_fine {l : List Opr} {m E A : Int} (h : MeaR l m E A) : E = 0 → l.length ≤ 8192 ∧ ∀ i < l.length, badO (l.getD i opr0) (mkN l i) = 0 := fun hE => by
  cases h with
  | long => cases hE
  | bad k E h hk hp he h0 => exact absurd hE h0
  | left => cases hE
  | fine h hp hm => exact ⟨h, hp⟩
theorem bad_take {o : Opr} (h : takO o = true) : ¬ badO o ((0 : Nat) : Int) = 0 := fun e => by
  unfold badO at e
  simp [h] at e
theorem trF_ok {l : List Opr} (hn2 : l.length ≤ 8192) (hp : ∀ i < l.length, badO (l.getD i opr0) (mkN l i) = 0) : ∀ k, k ≤ l.length → TrI (trF l k).1 (trF l k).2 k ∧ ((trF l k).2.length : Int) = mkN l k ∧ ∀ j < k, TStep (l.getD j opr0) (trF l j).1 (trF l j).2 (trF l (j + 1))
  | 0, _ => ⟨⟨List.Pairwise.nil, (fun v hv => by cases hv), (fun v hv => by cases hv), Nat.le_refl _, Nat.le_refl _⟩, rfl, fun j hj => by omega⟩
  | k + 1, hk => by
    obtain ⟨h1, h2, h3⟩ := trF_ok hn2 hp k (by omega)
    have hb := hp k (by omega)
    have hne : takO (l.getD k opr0) = true → (trF l k).2 ≠ [] := fun ht e => by
      rw [e] at h2
      rw [← h2] at hb
      exact absurd hb (bad_take ht)
    obtain ⟨g1, g2⟩ := trI_step h1 (by omega) hne
    refine ⟨g1, ?_, fun j hj => ?_⟩
    · have e : mkN l (k + 1) = if (l.getD k opr0).kind = 1 then mkN l k + 1 else if takO (l.getD k opr0) then mkN l k - 1 else mkN l k := rfl
      rw [e, ← h2]
      exact trS_len hne
    · by_cases e : j = k
      · subst e; exact g2
      · exact h3 j (by omega)
theorem cTrim_any {l : List Opr} {m : Int} (hm : MeaR l m 0 0) (p : Option Addr) (b0 off c : Nat) (hu : ∀ i < l.length, OpU (l.getD i opr0)) (w : World) (hs : OSrc w p b0 off l) :
    Calls Tryz.prog 17 #[.slice p l.length c] w fun e w' => ∃ v, e = .returned (.tuple #[v, .int .i64 0]) ∧ w'.ownsRow w.heap.size 47 9 v (trF l l.length).1.length (rowV opC ((trF l l.length).1.map Prod.fst)) ∧ Below w.heap.size w w' := by
  obtain ⟨hl, hp⟩ : l.length ≤ 8192 ∧ ∀ i < l.length, badO (l.getD i opr0) (mkN l i) = 0 := mea_fine hm rfl
  refine cTrim_go hm l.length p b0 off c rfl (by omega) hu (trF l) rfl (trF_ok hl hp l.length (Nat.le_refl _)).2.2 (fun k hk => ?_) w hs
  have h := (trF_ok hl hp k hk).1
  exact ⟨Nat.le_trans h.len (by omega), Nat.le_trans h.mlen (by omega)⟩
end Go.Proofs.YtienedhaogjahaaGreatDoor
namespace Go.Proofs.YtienedhaogjahaaGreatDoor

def runT (l : List Opr) (st : List (Opr × Int) × List Int) : List (Opr × Int) × List Int := l.foldl (fun s o => trS o s.1 s.2) st
theorem runT_append (a b : List Opr) (st : List (Opr × Int) × List Int) : runT (a ++ b) st = runT b (runT a st) := List.foldl_append
theorem runT_one (o : Opr) (st : List (Opr × Int) × List Int) : runT [o] st = trS o st.1 st.2 := rfl
theorem trF_run (l : List Opr) : ∀ k, k ≤ l.length → trF l k = runT (l.take k) ([], [])
  | 0, _ => rfl
  | k + 1, hk => by
    rw [take_more l opr0 k (by omega), runT_append, ← trF_run l k (by omega), runT_one]
    rfl
inductive WN : Nat → List (Opr × Int) → Prop
  | nil {h : Nat} : WN h []
  | other {h : Nat} {s : List (Opr × Int)} {o : Opr} : WN h s → o.kind ≠ 1 → takO o = false → fitO o = true → WN h (s ++ [(o, 0)])
  | blk {h : Nat} {s r : List (Opr × Int)} {q o : Opr} {x : Opr × Int} : WN (h + 1) s → WN h (r ++ [x]) → q.kind = 1 → takO o = true → trnO o = false → ¬ (o.kind = 4 ∧ x.1.kind = 4 ∧ x.2 = (r.length : Int)) → fitO q = true → fitO o = true → WN (h + 1) (s ++ ((q, 0) :: (r ++ [x])) ++ [(o, (r.length : Int) + 2)])
theorem WN.append {h : Nat} {s t : List (Opr × Int)} (hs : WN h s) (ht : WN h t) : WN h (s ++ t) := by
  induction ht with
  | nil => rw [List.append_nil]; exact hs
  | other _ h1 h2 h3 ih => rw [← List.append_assoc]; exact .other (ih hs) h1 h2 h3
  | blk _ h2 h3 h4 h5 h6 h7 h8 ih _ => rw [← List.append_assoc, ← List.append_assoc]; exact .blk (ih hs) h2 h3 h4 h5 h6 h7 h8
theorem WN.up {h : Nat} {s : List (Opr × Int)} (hs : WN h s) : WN (h + 1) s := by
  induction hs with
  | nil => exact .nil
  | other _ h1 h2 h3 ih => exact .other ih h1 h2 h3
  | blk _ h2 h3 h4 h5 h6 h7 h8 ih1 ih2 => exact .blk ih1 ih2 h3 h4 h5 h6 h7 h8
theorem mark_not_takes {q : Opr} (h : q.kind = 1) : takO q = false := by unfold takO; rw [h]; rfl
theorem WN.run {n : Nat} {s : List (Opr × Int)} (h : WN n s) : ∀ cs ms, runT (s.map Prod.fst) (cs, ms) = (cs ++ s, ms) := by
  induction h with
  | nil => intro cs ms; rw [List.append_nil]; rfl
  | other _ h1 h2 _ ih =>
    intro cs ms
    rw [List.map_append, runT_append, ih cs ms]
    show trS _ _ _ = _
    unfold trS
    rw [if_neg (by rw [h2]; decide), if_neg h1, List.append_assoc]
  | @blk n s r q o x _ _ h3 h4 h5 h6 _ _ ih1 ih2 =>
    intro cs ms
    have e1 : runT [q] (cs ++ s, ms) = (cs ++ s ++ [(q, 0)], ms ++ [((cs ++ s).length : Int)]) := by
      show trS _ _ _ = _
      unfold trS
      rw [if_neg (by rw [mark_not_takes h3]; decide), if_pos h3]
    have e2 : (s ++ ((q, 0) :: (r ++ [x])) ++ [(o, (r.length : Int) + 2)]).map Prod.fst = s.map Prod.fst ++ ([q] ++ ((r ++ [x]).map Prod.fst ++ [o])) := by simp
    rw [e2, runT_append, ih1 cs ms, runT_append, e1, runT_append, ih2]
    show trS o _ _ = _
    generalize hA : cs ++ s = A
    have hl : (A ++ [(q, 0)] ++ (r ++ [x])).length = A.length + r.length + 2 := by simp; omega
    unfold trS
    rw [if_pos h4]
    simp only [List.getLastD_concat, List.dropLast_concat, Int.toNat_natCast]
    rw [if_neg (by rw [hl, h5]; intro h; rcases h with h | h; omega; cases h)]
    have eL : (A ++ [(q, 0)] ++ (r ++ [x])).getLastD (opr0, 0) = x := by rw [← List.append_assoc]; exact List.getLastD_concat
    rw [eL, if_neg]
    · rw [hl]
      congr 1
      rw [← hA]
      simp only [List.append_assoc, List.cons_append, List.nil_append]
      congr 5
      rw [show (((cs ++ s).length + r.length + 2 : Nat) : Int) - ((cs ++ s).length : Int) = (r.length : Int) + 2 by omega]
    · intro h
      rw [Bool.and_eq_true, beq_iff_eq] at h
      obtain ⟨h7, h8⟩ := h
      unfold gabO at h8
      rw [Bool.and_eq_true, beq_iff_eq, beq_iff_eq, hl] at h8
      exact h6 ⟨h7, h8.1, by omega⟩
end Go.Proofs.YtienedhaogjahaaGreatDoor
namespace Go.Proofs.YtienedhaogjahaaGreatDoor

inductive SI : List (Opr × Int) → List Int → Prop
  | base {s : List (Opr × Int)} : WN 63 s → SI s []
  | more {h : Nat} {cs s : List (Opr × Int)} {ms : List Int} {q : Opr} : SI cs ms → q.kind = 1 → fitO q = true → ms.length + 1 + h = 63 → WN h s → SI (cs ++ ((q, 0) :: s)) (ms ++ [(cs.length : Int)])
theorem SI.lift {n : Nat} {cs s : List (Opr × Int)} {ms : List Int} (h : SI cs ms) (hs : WN n s) (hn : ms.length + n = 63) : SI (cs ++ s) ms := by
  cases h with
  | base h =>
    obtain rfl : n = 63 := by simpa using hn
    exact .base (h.append hs)
  | @more n' cs' s' ms' q h hq hf hn' ht =>
    obtain rfl : n = n' := by rw [List.length_append, List.length_singleton] at hn; omega
    rw [List.append_assoc, List.cons_append]
    exact .more h hq hf hn' (ht.append hs)
theorem WN.give {n : Nat} {r : List (Opr × Int)} {x : Opr × Int} (h : WN n (r ++ [x])) (h4 : x.1.kind = 4) (hl : x.2 = (r.length : Int)) : ∃ q t, r = (q, 0) :: t ∧ WN n t := by
  generalize e : r ++ [x] = l at h
  cases h with
  | nil => simp at e
  | @other _ s o _ h1 h2 =>
    obtain ⟨rfl, e2⟩ := List.append_inj' e rfl
    obtain rfl : x = (o, 0) := by simpa using e2
    unfold takO at h2
    rw [show o.kind = 4 from h4] at h2
    exact absurd h2 (by decide)
  | @blk _ s r' q o x' _ h2 =>
    obtain ⟨rfl, e2⟩ := List.append_inj' e rfl
    obtain rfl : x = (o, (r'.length : Int) + 2) := by simpa using e2
    have hs : s = [] := by
      apply List.length_eq_zero_iff.1
      simp at hl
      omega
    subst hs
    exact ⟨q, r' ++ [x'], rfl, h2.up⟩
theorem SI.step {o : Opr} {cs : List (Opr × Int)} {ms : List Int} (h : SI cs ms) (hne : takO o = true → ms ≠ []) (hf : fitO o = true) (h63 : ms.length ≤ 63) (h62 : o.kind = 1 → ms.length ≤ 62) : SI (trS o cs ms).1 (trS o cs ms).2 := by
  unfold trS
  by_cases ht : takO o = true
  · rw [if_pos ht]
    cases h with
    | base h => exact absurd rfl (hne ht)
    | @more n A s ms0 q hA hq hfq hn hs =>
      have e1 : (A ++ (q, 0) :: s).take A.length = A := by simp
      have e2 : (A ++ (q, 0) :: s).drop (A.length + 1) = s := by
        rw [show A ++ (q, (0 : Int)) :: s = (A ++ [(q, 0)]) ++ s by simp]
        exact List.drop_left' (by simp)
      simp only [List.getLastD_concat, List.dropLast_concat, Int.toNat_natCast]
      rw [e1, e2]
      by_cases hd : A.length + 1 = (A ++ (q, (0 : Int)) :: s).length ∨ trnO o = true
      · rw [if_pos hd]
        exact hA.lift hs.up (by omega)
      · rw [if_neg hd]
        have htn : trnO o = false := by
          cases e : trnO o
          · rfl
          · exact absurd (.inr e) hd
        have hn : s ≠ [] := fun e => hd (.inl (by rw [e]; simp))
        obtain ⟨r, x, rfl⟩ := snoc_of hn
        have eb : A ++ (q, (0 : Int)) :: (r ++ [x]) = (A ++ (q, 0) :: r) ++ [x] := by simp
        have el : (A ++ (q, (0 : Int)) :: (r ++ [x])).length = A.length + r.length + 2 := by simp; omega
        rw [el, eb, List.getLastD_concat, List.dropLast_concat]
        by_cases hg : (o.kind == 4 && gabO x (((A.length + r.length + 2 : Nat) : Int) - 1) (A.length : Int)) = true
        · rw [if_pos hg]
          rw [Bool.and_eq_true] at hg
          have g2 := hg.2
          unfold gabO at g2
          rw [Bool.and_eq_true, beq_iff_eq, beq_iff_eq] at g2
          obtain ⟨q', t, rfl, hw⟩ := hs.give g2.1 (by omega)
          have ed : drop3 (A ++ (q, (0 : Int)) :: (q', 0) :: t) A.length = A ++ t := by
            unfold drop3
            have f1 : (A ++ (q, (0 : Int)) :: (q', 0) :: t).drop (A.length + 1 + 1) = t := by
              rw [show A ++ (q, (0 : Int)) :: (q', 0) :: t = (A ++ [(q, 0), (q', 0)]) ++ t by simp]
              exact List.drop_left' (by simp)
            have f2 : (A ++ (q, (0 : Int)) :: (q', 0) :: t).take (A.length + 1) = A ++ [(q, 0)] := by
              rw [show A ++ (q, (0 : Int)) :: (q', 0) :: t = (A ++ [(q, 0)]) ++ ((q', 0) :: t) by simp]
              exact List.take_left' (by simp)
            rw [f1, f2]
            have f3 : (A ++ [(q, (0 : Int))] ++ t).take A.length = A := by rw [List.append_assoc]; exact List.take_left' rfl
            have f4 : (A ++ [(q, (0 : Int))] ++ t).drop (A.length + 1) = t := List.drop_left' (by simp)
            rw [f3, f4]
          rw [ed]
          exact hA.lift hw.up (by omega)
        · rw [if_neg hg, ← eb]
          have := hA.lift (WN.blk .nil hs hq ht htn (fun hh => hg (by
            rw [Bool.and_eq_true]
            refine ⟨by rw [hh.1]; rfl, ?_⟩
            unfold gabO
            rw [Bool.and_eq_true, beq_iff_eq, beq_iff_eq]
            exact ⟨hh.2.1, by have := hh.2.2; omega⟩)) hfq hf) (by omega)
          rw [show ((A.length + r.length + 2 : Nat) : Int) - (A.length : Int) = (r.length : Int) + 2 by omega]
          rw [List.nil_append, ← List.append_assoc] at this
          exact this
  · rw [if_neg ht]
    by_cases h1 : o.kind = 1
    · rw [if_pos h1]
      exact .more (h := 63 - (ms.length + 1)) h h1 hf (by have := h62 h1; omega) .nil
    · rw [if_neg h1]
      exact h.lift (n := 63 - ms.length) (WN.other .nil h1 (by simpa using ht) hf) (by omega)
end Go.Proofs.YtienedhaogjahaaGreatDoor
namespace Go.Proofs.YtienedhaogjahaaGreatDoor

theorem trF_SI {l : List Opr} (hn2 : l.length ≤ 8192) (hp : ∀ i < l.length, badO (l.getD i opr0) (mkN l i) = 0) : ∀ k, k ≤ l.length → SI (trF l k).1 (trF l k).2
  | 0, _ => .base .nil
  | k + 1, hk => by
    have h := trF_SI hn2 hp k (by omega)
    obtain ⟨_, h2, _⟩ := trF_ok hn2 hp k (by omega)
    have hb := hp k (by omega)
    have hr := mk_range l k (fun i hi => hp i (by omega))
    refine h.step (fun ht e => ?_) ?_ (by omega) (fun h1 => ?_)
    · rw [e] at h2
      rw [← h2] at hb
      exact absurd hb (bad_take ht)
    · cases e : fitO (l.getD k opr0)
      · unfold badO at hb
        rw [if_pos (.inl e)] at hb
        cases hb
      · rfl
    · unfold badO at hb
      split at hb
      · cases hb
      · split at hb
        · cases hb
        · rename_i h3
          have : ¬ mkN l k = 63 := fun e => h3 ⟨h1, e⟩
          omega
theorem trF_WN {l : List Opr} {m : Int} (hm : MeaR l m 0 0) : (trF l l.length).2 = [] ∧ WN 63 (trF l l.length).1 ∧ (trF l l.length).1.length ≤ l.length := by
  have key : ∀ E A, MeaR l m E A → E = 0 → (trF l l.length).2 = [] ∧ WN 63 (trF l l.length).1 ∧ (trF l l.length).1.length ≤ l.length := fun E A h hE => by
    cases h with
    | long => cases hE
    | bad k E h hk hp he h0 => exact absurd hE h0
    | left => cases hE
    | fine h hp hm =>
      have hS := trF_SI h hp l.length (Nat.le_refl _)
      obtain ⟨hI, h2, _⟩ := trF_ok h hp l.length (Nat.le_refl _)
      have e : (trF l l.length).2 = [] := List.length_eq_zero_iff.1 (by omega)
      refine ⟨e, ?_, hI.len⟩
      generalize trF l l.length = q at hS e
      obtain ⟨cs, ms⟩ := q
      dsimp only at hS e ⊢
      subst e
      generalize e : ([] : List Int) = z at hS
      cases hS with
      | base h => exact h
      | more => simp at e
  exact key _ _ hm rfl
def stM (d : Int) (o : Opr) : Int := if o.kind = 1 then d + 1 else if takO o then d - 1 else d
def mkL (l : List Opr) (d : Int) : Int := l.foldl stM d
theorem mkL_append (a b : List Opr) (d : Int) : mkL (a ++ b) d = mkL b (mkL a d) := List.foldl_append
theorem mkN_L (l : List Opr) : ∀ k, k ≤ l.length → mkN l k = mkL (l.take k) 0
  | 0, _ => rfl
  | k + 1, hk => by
    rw [take_more l opr0 k (by omega), mkL_append, ← mkN_L l k (by omega)]
    rfl
def allOk : List Opr → Int → Prop
  | [], _ => True
  | o :: t, d => badO o d = 0 ∧ allOk t (stM d o)
theorem allOk_append : ∀ (a b : List Opr) (d : Int), allOk a d → allOk b (mkL a d) → allOk (a ++ b) d
  | [], _, _, _, h => h
  | _ :: t, b, _, h1, h => ⟨h1.1, allOk_append t b _ h1.2 h⟩
theorem allOk_at : ∀ (l : List Opr) (d : Int), allOk l d → ∀ i < l.length, badO (l.getD i opr0) (mkL (l.take i) d) = 0
  | [], _, _, i, hi => by cases hi
  | o :: t, d, h, 0, _ => h.1
  | o :: t, d, h, i + 1, hi => by
    have := allOk_at t _ h.2 i (by simpa using hi)
    simpa [mkL] using this
theorem bad_fit {o : Opr} {d : Int} (hf : fitO o = true) (h1 : takO o = true → d ≠ 0) (h2 : o.kind = 1 → d ≠ 63) : badO o d = 0 := by
  unfold badO
  rw [if_neg (by rintro (h | h); rw [hf] at h; cases h; exact h1 h.1 h.2), if_neg (fun h => h2 h.1 h.2)]
theorem WN.ok {n : Nat} {s : List (Opr × Int)} (h : WN n s) : ∀ d : Int, 0 ≤ d → d + n ≤ 63 → allOk (s.map Prod.fst) d ∧ mkL (s.map Prod.fst) d = d := by
  induction h with
  | nil => exact fun d _ _ => ⟨trivial, rfl⟩
  | @other n s o _ h1 h2 h3 ih =>
    intro d h0 hd
    obtain ⟨g1, g2⟩ := ih d h0 hd
    rw [List.map_append, mkL_append, g2]
    refine ⟨allOk_append _ _ _ g1 ?_, ?_⟩
    · rw [g2]
      exact ⟨bad_fit h3 (fun h => by rw [h2] at h; cases h) (fun h => absurd h h1), trivial⟩
    · show stM d o = d
      unfold stM
      rw [if_neg h1, h2]
      rfl
  | @blk n s r q o x _ _ h3 h4 h5 h6 h7 h8 ih1 ih2 =>
    intro d h0 hd
    obtain ⟨g1, g2⟩ := ih1 d h0 hd
    obtain ⟨k1, k2⟩ := ih2 (d + 1) (by omega) (by omega)
    have eq : stM d q = d + 1 := by unfold stM; rw [if_pos h3]
    have ho1 : o.kind ≠ 1 := fun e => by rw [mark_not_takes e] at h4; cases h4
    have eo : stM (d + 1) o = d := by unfold stM; rw [if_neg ho1, if_pos h4]; omega
    have e2 : (s ++ ((q, 0) :: (r ++ [x])) ++ [(o, (r.length : Int) + 2)]).map Prod.fst = s.map Prod.fst ++ ([q] ++ ((r ++ [x]).map Prod.fst ++ [o])) := by simp
    have m1 : mkL [q] d = d + 1 := eq
    have m2 : mkL [o] (d + 1) = d := eo
    rw [e2]
    refine ⟨allOk_append _ _ _ g1 ?_, ?_⟩
    · rw [g2]
      refine allOk_append _ _ _ ⟨bad_fit h7 (fun h => by rw [mark_not_takes h3] at h; cases h) (fun _ => by omega), trivial⟩ ?_
      rw [m1]
      refine allOk_append _ _ _ k1 ?_
      rw [k2]
      exact ⟨bad_fit h8 (fun _ => by omega) (fun h => absurd h ho1), trivial⟩
    · rw [mkL_append, g2, mkL_append, m1, mkL_append, k2, m2]
end Go.Proofs.YtienedhaogjahaaGreatDoor
namespace Go.Proofs.YtienedhaogjahaaGreatDoor

theorem MeaR.zero {l : List Opr} {M E A : Int} (h : MeaR l M E A) (hE : E = 0) : A = 0 := by
  cases h with
  | long => cases hE
  | bad k E h hk hp he h0 => exact absurd hE h0
  | left => cases hE
  | fine => rfl
def kpL (l : List Opr) : List Opr := (trF l l.length).1.map Prod.fst
theorem kpL_len {l : List Opr} {m : Int} (hm : MeaR l m 0 0) : (kpL l).length ≤ l.length := by
  unfold kpL
  rw [List.length_map]
  exact (trF_WN hm).2.2
end Go.Proofs.YtienedhaogjahaaGreatDoor
namespace Go.Proofs.YtienedhaogjahaaGreatDoor

structure OkL (l : List Opr) : Prop where
  len : l.length ≤ 8192
  ok : ∀ i < l.length, badO (l.getD i opr0) (mkN l i) = 0
def addS (o : Opr) (st : List (Opr × Int) × List Int) : List (Opr × Int) × List Int :=
  if takO o = true then (st.1 ++ [(o, (st.1.length : Int) - st.2.getLastD 0)], st.2.dropLast)
  else if o.kind = 1 then (st.1 ++ [(o, 0)], st.2 ++ [(st.1.length : Int)]) else (st.1 ++ [(o, 0)], st.2)
def fulF (l : List Opr) : Nat → List (Opr × Int) × List Int
  | 0 => ([], [])
  | k + 1 => addS (l.getD k opr0) (fulF l k)
theorem fulF_len (l : List Opr) : ∀ k, (fulF l k).1.length = k
  | 0 => rfl
  | k + 1 => by
    have := fulF_len l k
    show (addS _ _).1.length = _
    unfold addS
    split
    · simp [this]
    · split <;> simp [this]
theorem fulF_map (l : List Opr) : ∀ k, k ≤ l.length → (fulF l k).1.map Prod.fst = l.take k
  | 0, _ => rfl
  | k + 1, hk => by
    have := fulF_map l k (by omega)
    rw [take_more l opr0 k (by omega), ← this]
    show (addS _ _).1.map _ = _
    unfold addS
    split
    · simp
    · split <;> simp
theorem fulF_open {l : List Opr} (h : OkL l) : ∀ k, k ≤ l.length → ((fulF l k).2.length : Int) = mkN l k ∧ ∀ v ∈ (fulF l k).2, 0 ≤ v ∧ v < (k : Int)
  | 0, _ => ⟨rfl, (fun v hv => by cases hv)⟩
  | k + 1, hk => by
    obtain ⟨h1, h2⟩ := fulF_open h k (by omega)
    have hb := h.ok k (by omega)
    have e : mkN l (k + 1) = if (l.getD k opr0).kind = 1 then mkN l k + 1 else if takO (l.getD k opr0) then mkN l k - 1 else mkN l k := rfl
    rw [e, ← h1]
    show (((addS _ _).2.length : Nat) : Int) = _ ∧ ∀ v ∈ (addS _ _).2, _
    unfold addS
    by_cases ht : takO (l.getD k opr0) = true
    · have hk1 : (l.getD k opr0).kind ≠ 1 := fun e => by rw [mark_not_takes e] at ht; cases ht
      have hne : (fulF l k).2 ≠ [] := fun e => by
        rw [e] at h1
        rw [← h1] at hb
        exact absurd hb (bad_take ht)
      have := List.length_pos_iff.2 hne
      rw [if_pos ht, if_neg hk1, if_pos ht]
      refine ⟨by rw [List.length_dropLast]; omega, fun v hv => ?_⟩
      have := h2 v (List.dropLast_subset _ hv)
      omega
    · rw [if_neg ht]
      by_cases hk1 : (l.getD k opr0).kind = 1
      · rw [if_pos hk1, if_pos hk1, fulF_len]
        refine ⟨by simp, fun v hv => ?_⟩
        rcases List.mem_append.1 hv with hv | hv
        · have := h2 v hv; omega
        · obtain rfl : v = (k : Int) := by simpa using hv
          omega
      · rw [if_neg hk1, if_neg hk1, if_neg ht]
        refine ⟨rfl, fun v hv => ?_⟩
        have := h2 v hv; omega
def mat (l : List Opr) (i : Nat) : Int := if takO (l.getD i opr0) = true then (fulF l i).2.getLastD 0 else -1
theorem mat_in {l : List Opr} (h : OkL l) {i : Nat} (hi : i < l.length) (ht : takO (l.getD i opr0) = true) : ∃ ms, (fulF l i).2 = ms ++ [mat l i] ∧ 0 ≤ mat l i ∧ mat l i < (i : Int) := by
  obtain ⟨h1, h2⟩ := fulF_open h i (by omega)
  have hne : (fulF l i).2 ≠ [] := fun e => by
    have hb := h.ok i hi
    rw [e] at h1
    rw [← h1] at hb
    exact absurd hb (bad_take ht)
  obtain ⟨ms, v, e⟩ := snoc_of hne
  have hm : mat l i = v := by unfold mat; rw [if_pos ht, e, List.getLastD_concat]
  exact ⟨ms, by rw [hm]; exact e, by rw [hm]; exact (h2 v (by rw [e]; simp)).1, by rw [hm]; exact (h2 v (by rw [e]; simp)).2⟩
def oneB (l : List Opr) (i : Nat) : Bool := mat l i == (i : Int) - 1 || (l.getD i opr0).kind == 5 && ((l.getD i opr0).x : Int) == 4607182418800017408 || (l.getD i opr0).kind == 7 && (l.getD i opr0).n == 1
def twoB (l : List Opr) (i : Nat) : Bool := (l.getD i opr0).kind == 4 && (l.getD (i - 1) opr0).kind == 4 && mat l (i - 1) == mat l i + 1
def firB (l : List Opr) (i : Nat) : Bool := takO (l.getD i opr0) && (oneB l i || twoB l i)
theorem one_bits {x : Nat} (hx : x < 18446744073709551616) : (FloatKind.f64.format.order x 4607182418800017408 == some .eq) = ((x : Int) == 4607182418800017408) := by
  by_cases e : x = 4607182418800017408
  · subst e; decide
  · have e1 : ((x : Int) == 4607182418800017408) = false := by rw [beq_eq_false_iff_ne]; omega
    rw [e1]
    cases hn : nanB (x : Int) with
    | true => rw [order_nan_left hn]; rfl
    | false =>
      rw [eq_rank ⟨by omega, by omega⟩ ⟨by omega, by omega⟩ hn (by decide)]
      rw [show rankI ((4607182418800017408 : Nat) : Int) = 4607182418800017408 by decide]
      refine decide_eq_false fun h => e ?_
      unfold rankI at h
      rw [hn] at h
      unfold nanB szI at hn
      have hn' := of_decide_eq_false hn
      simp only [Bool.false_eq_true, if_false] at h
      unfold sgB szI at h
      split at h
      · omega
      · rename_i hs
        have hs' : ¬ (9223372036854775808 : Int) ≤ (x : Int) := fun hh => hs (decide_eq_true hh)
        omega
theorem trn_is {o : Opr} (hu : OpU o) : trnO o = (o.kind == 5 && ((o.x : Int) == 4607182418800017408) || o.kind == 7 && o.n == 1) := by
  unfold trnO
  rw [one_bits (by have := hu.x.2; omega)]
theorem ful_last {l : List Opr} {i : Nat} (ht : takO (l.getD i opr0) = true) : (fulF l i).2.getLastD 0 = mat l i := by unfold mat; rw [if_pos ht]
theorem trS_add {l : List Opr} (h : OkL l) (hu : ∀ i < l.length, OpU (l.getD i opr0)) {i : Nat} (hi : i < l.length) (hf : firB l i = false) : trS (l.getD i opr0) (fulF l i).1 (fulF l i).2 = addS (l.getD i opr0) (fulF l i) := by
  unfold trS addS
  by_cases ht : takO (l.getD i opr0) = true
  · rw [if_pos ht, if_pos ht]
    obtain ⟨ms, e, m0, m1⟩ := mat_in h hi ht
    unfold firB at hf
    rw [ht, Bool.true_and, Bool.or_eq_false_iff] at hf
    obtain ⟨f1, f2⟩ := hf
    unfold oneB at f1
    rw [Bool.or_assoc, ← trn_is (hu i hi), Bool.or_eq_false_iff, beq_eq_false_iff_ne] at f1
    rw [ful_last ht, fulF_len]
    have n1 : ¬ ((mat l i).toNat + 1 = i ∨ trnO (l.getD i opr0) = true) := by
      rintro (q | q)
      · exact f1.1 (by omega)
      · rw [f1.2] at q; cases q
    rw [if_neg n1]
    rw [if_neg]
    intro hg
    rw [Bool.and_eq_true] at hg
    obtain ⟨g1, g2⟩ := hg
    have hi0 : i ≠ 0 := by omega
    obtain ⟨k, rfl⟩ : ∃ k, i = k + 1 := ⟨i - 1, by omega⟩
    have hk : takO (l.getD k opr0) = true → (fulF l (k + 1)).1.getLastD (opr0, 0) = (l.getD k opr0, (k : Int) - mat l k) := fun htk => by
      show (addS _ _).1.getLastD _ = _
      unfold addS
      rw [if_pos htk, List.getLastD_concat, fulF_len, ful_last htk]
    have hk2 : (fulF l (k + 1)).1.getLastD (opr0, 0) = (l.getD k opr0, 0) ∨ takO (l.getD k opr0) = true := by
      by_cases htk : takO (l.getD k opr0) = true
      · exact .inr htk
      · refine .inl ?_
        show (addS _ _).1.getLastD _ = _
        unfold addS
        rw [if_neg htk]
        split <;> exact List.getLastD_concat
    unfold gabO at g2
    rw [Bool.and_eq_true, beq_iff_eq, beq_iff_eq] at g2
    have hkk : (l.getD k opr0).kind = 4 := by
      rcases hk2 with e | e
      · rw [e] at g2; exact g2.1
      · rw [hk e] at g2; exact g2.1
    have htk : takO (l.getD k opr0) = true := by unfold takO; rw [hkk]; rfl
    rw [hk htk] at g2
    have f2' := f2
    unfold twoB at f2'
    rw [g1, Nat.add_sub_cancel, hkk] at f2'
    have : (mat l k == mat l (k + 1) + 1) = true := by rw [beq_iff_eq]; have := g2.2; simp only at this; omega
    rw [this] at f2'
    exact absurd f2' (by decide)
  · rw [if_neg ht, if_neg ht]
theorem trF_ful {l : List Opr} (h : OkL l) (hu : ∀ i < l.length, OpU (l.getD i opr0)) : ∀ k, k ≤ l.length → (∀ i < k, firB l i = false) → trF l k = fulF l k
  | 0, _, _ => rfl
  | k + 1, hk, hf => by
    have ih := trF_ful h hu k (by omega) (fun i hi => hf i (by omega))
    show trS _ (trF l k).1 (trF l k).2 = addS _ (fulF l k)
    rw [ih]
    exact trS_add h hu (by omega) (hf k (by omega))
theorem kpL_all {l : List Opr} (h : OkL l) (hu : ∀ i < l.length, OpU (l.getD i opr0)) (hf : ∀ i < l.length, firB l i = false) : kpL l = l := by
  unfold kpL
  rw [trF_ful h hu l.length (Nat.le_refl _) hf, fulF_map l _ (Nat.le_refl _), List.take_length]
theorem SI.again {cs : List (Opr × Int)} {ms : List Int} (h : SI cs ms) : runT (cs.map Prod.fst) ([], []) = (cs, ms) := by
  induction h with
  | base h => simpa using h.run [] []
  | @more n cs s ms q _ hq _ _ hs ih =>
    rw [List.map_append, runT_append, ih]
    show runT (q :: s.map Prod.fst) (cs, ms) = _
    rw [show q :: s.map Prod.fst = [q] ++ s.map Prod.fst from rfl, runT_append]
    have e1 : runT [q] (cs, ms) = (cs ++ [(q, 0)], ms ++ [(cs.length : Int)]) := by
      show trS _ _ _ = _
      unfold trS
      rw [if_neg (by rw [mark_not_takes hq]; decide), if_pos hq]
    rw [e1, hs.run]
    simp
theorem SI.ok {cs : List (Opr × Int)} {ms : List Int} (h : SI cs ms) : allOk (cs.map Prod.fst) 0 ∧ mkL (cs.map Prod.fst) 0 = (ms.length : Int) := by
  induction h with
  | base h => exact h.ok 0 (by omega) (by omega)
  | @more n cs s ms q _ hq hf hn hs ih =>
    obtain ⟨i1, i2⟩ := ih
    have e : stM (ms.length : Int) q = (ms.length : Int) + 1 := by unfold stM; rw [if_pos hq]
    obtain ⟨w1, w2⟩ := hs.ok ((ms.length : Int) + 1) (by omega) (by omega)
    rw [List.map_append]
    refine ⟨allOk_append _ _ _ i1 ?_, ?_⟩
    · rw [i2]
      refine ⟨bad_fit hf (fun ht => by rw [mark_not_takes hq] at ht; cases ht) (fun _ => by omega), ?_⟩
      rw [e]; exact w1
    · rw [mkL_append, i2]
      show mkL (s.map Prod.fst) (stM _ q) = _
      rw [e, w2]
      simp
theorem allOk_of : ∀ (l : List Opr) (d : Int), (∀ i < l.length, badO (l.getD i opr0) (mkL (l.take i) d) = 0) → allOk l d
  | [], _, _ => trivial
  | o :: t, d, h => ⟨h 0 (by simp), allOk_of t _ fun i hi => by
    have := h (i + 1) (by simpa using hi)
    simpa [mkL] using this⟩
theorem okL_of {l : List Opr} (hl : l.length ≤ 8192) (h : allOk l 0) : OkL l := ⟨hl, fun i hi => by rw [mkN_L l i (by omega)]; exact allOk_at l 0 h i hi⟩
theorem allOk_split : ∀ (a b : List Opr) (d : Int), allOk (a ++ b) d → allOk b (mkL a d)
  | [], _, _, h => h
  | _ :: t, b, _, h => allOk_split t b _ h.2
theorem OkL.all {l : List Opr} (h : OkL l) : allOk l 0 := allOk_of l 0 fun i hi => by rw [← mkN_L l i (by omega)]; exact h.ok i hi
theorem kpL_held {l : List Opr} (h : OkL l) {k : Nat} (hk : k ≤ l.length) : kpL ((trF l k).1.map Prod.fst ++ l.drop k) = kpL l ∧ OkL ((trF l k).1.map Prod.fst ++ l.drop k) := by
  have hs := trF_SI h.len h.ok k hk
  have hlen := (trF_ok h.len h.ok k hk).1.len
  have hml := (trF_ok h.len h.ok k hk).2.1
  constructor
  · unfold kpL
    rw [trF_run _ _ (Nat.le_refl _), trF_run _ _ (Nat.le_refl _), List.take_length, List.take_length, runT_append, hs.again]
    rw [show runT l ([], []) = runT (l.take k ++ l.drop k) ([], []) by rw [List.take_append_drop], runT_append, ← trF_run l k hk]
  · refine okL_of ?_ (allOk_append _ _ _ hs.ok.1 ?_)
    · have := h.len
      rw [List.length_append, List.length_map, List.length_drop]; omega
    · rw [hs.ok.2, hml, mkN_L l k hk]
      have ha := h.all
      rw [← List.take_append_drop k l] at ha
      exact allOk_split _ _ _ ha
def hitB (at_ : List Int) (i : Nat) : Bool := at_.any (fun a => a == (i : Int))
def wiF (l : List Opr) (at_ : List Int) : Nat → List Opr
  | 0 => []
  | k + 1 => if hitB at_ k = true then wiF l at_ k else wiF l at_ k ++ [l.getD k opr0]
theorem wiF_gone {l : List Opr} {at_ : List Int} {k : Nat} (h : hitB at_ k = true) : wiF l at_ (k + 1) = wiF l at_ k := by
  show (if _ then _ else _) = _
  rw [if_pos h]
theorem wiF_keep {l : List Opr} {at_ : List Int} (a : Nat) : ∀ d, a + d ≤ l.length → (∀ j, a ≤ j → j < a + d → hitB at_ j = false) → wiF l at_ (a + d) = wiF l at_ a ++ (l.drop a).take d
  | 0, _, _ => by simp
  | d + 1, hl, hf => by
    have ih := wiF_keep (l := l) (at_ := at_) a d (by omega) (fun j h1 h2 => hf j h1 (by omega))
    show (if hitB at_ (a + d) = true then wiF l at_ (a + d) else wiF l at_ (a + d) ++ [l.getD (a + d) opr0]) = _
    rw [hf (a + d) (by omega) (by omega), if_neg (by decide), ih]
    have e : (l.drop a).take (d + 1) = (l.drop a).take d ++ [l.getD (a + d) opr0] := by
      have hd : d < (l.drop a).length := by rw [List.length_drop]; omega
      rw [take_more (l.drop a) opr0 d hd]
      congr 2
      simp [List.getD, List.getElem?_drop]
    rw [e, List.append_assoc]
theorem hit_no {at_ : List Int} {j : Nat} (h : ∀ a ∈ at_, a ≠ (j : Int)) : hitB at_ j = false := by
  unfold hitB
  rw [List.any_eq_false]
  intro a ha
  simpa using h a ha
theorem hit_yes {at_ : List Int} {j : Nat} (h : (j : Int) ∈ at_) : hitB at_ j = true := by
  unfold hitB
  rw [List.any_eq_true]
  exact ⟨_, h, by simp⟩
theorem wi_two {l : List Opr} {m i : Nat} (hm : m < i) (hi : i < l.length) : wiF l [(m : Int), (i : Int)] l.length = l.take m ++ (l.take i).drop (m + 1) ++ l.drop (i + 1) := by
  have e0 : wiF l [(m : Int), (i : Int)] m = l.take m := by
    have := wiF_keep (l := l) (at_ := [(m : Int), (i : Int)]) 0 m (by omega) (fun j _ h2 => hit_no (by simp; omega))
    simpa [wiF] using this
  have e1 : wiF l [(m : Int), (i : Int)] i = l.take m ++ (l.take i).drop (m + 1) := by
    have := wiF_keep (l := l) (at_ := [(m : Int), (i : Int)]) (m + 1) (i - (m + 1)) (by omega) (fun j h1 h2 => hit_no (by simp; omega))
    rw [show m + 1 + (i - (m + 1)) = i by omega, wiF_gone (hit_yes (by simp)), e0] at this
    rw [this, List.drop_take]
  have := wiF_keep (l := l) (at_ := [(m : Int), (i : Int)]) (i + 1) (l.length - (i + 1)) (by omega) (fun j h1 h2 => hit_no (by simp; omega))
  rw [show i + 1 + (l.length - (i + 1)) = l.length by omega, wiF_gone (hit_yes (by simp)), e1] at this
  have hz : (l.drop (i + 1)).take (l.length - (i + 1)) = l.drop (i + 1) := List.take_of_length_le (by rw [List.length_drop]; omega)
  rw [this, hz]
theorem wi_four {l : List Opr} {m i : Nat} (hm : m + 2 < i) (hi : i < l.length) : wiF l [(m : Int), (m : Int) + 1, (i : Int) - 1, (i : Int)] l.length = l.take m ++ (l.take (i - 1)).drop (m + 2) ++ l.drop (i + 1) := by
  obtain ⟨at_, ha⟩ : ∃ at_ : List Int, at_ = [(m : Int), (m : Int) + 1, (i : Int) - 1, (i : Int)] := ⟨_, rfl⟩
  have hmem : ∀ x, x ∈ at_ ↔ x = (m : Int) ∨ x = (m : Int) + 1 ∨ x = (i : Int) - 1 ∨ x = (i : Int) := fun x => by rw [ha]; simp
  have hno : ∀ j : Nat, (j ≠ m ∧ j ≠ m + 1 ∧ j ≠ i - 1 ∧ j ≠ i) → hitB at_ j = false := fun j hj => hit_no fun a h => by
    rcases (hmem a).1 h with h | h | h | h <;> omega
  rw [← ha]
  have e0 : wiF l at_ m = l.take m := by
    have := wiF_keep (l := l) (at_ := at_) 0 m (by omega) (fun j _ h2 => hno j (by omega))
    simpa [wiF] using this
  have e1 : wiF l at_ (m + 1 + 1) = l.take m := by
    rw [wiF_gone (hit_yes ((hmem _).2 (by omega))), wiF_gone (hit_yes ((hmem _).2 (by omega))), e0]
  have e2 : wiF l at_ (i - 1) = l.take m ++ (l.take (i - 1)).drop (m + 2) := by
    have := wiF_keep (l := l) (at_ := at_) (m + 1 + 1) (i - 1 - (m + 2)) (by omega) (fun j h1 h2 => hno j (by omega))
    rw [show m + 1 + 1 + (i - 1 - (m + 2)) = i - 1 by omega, e1] at this
    rw [this, List.drop_take]
  have e3 : wiF l at_ (i + 1) = l.take m ++ (l.take (i - 1)).drop (m + 2) := by
    rw [wiF_gone (hit_yes ((hmem _).2 (by omega))), show i = i - 1 + 1 by omega, wiF_gone (hit_yes ((hmem _).2 (by omega)))]
    rw [show i - 1 + 1 - 1 = i - 1 by omega, e2]
  have := wiF_keep (l := l) (at_ := at_) (i + 1) (l.length - (i + 1)) (by omega) (fun j h1 h2 => hno j (by omega))
  rw [show i + 1 + (l.length - (i + 1)) = l.length by omega, e3] at this
  have hz : (l.drop (i + 1)).take (l.length - (i + 1)) = l.drop (i + 1) := List.take_of_length_le (by rw [List.length_drop]; omega)
  rw [this, hz]
def gonF (l : List Opr) (i : Nat) : List Int := if oneB l i = true then [mat l i, (i : Int)] else [mat l i, mat l i + 1, (i : Int) - 1, (i : Int)]
theorem drop3_eq {r : List (Opr × Int)} {m : Nat} (h : m + 1 ≤ r.length) : drop3 r m = r.take m ++ r.drop (m + 2) := by
  unfold drop3
  have hl : (r.take (m + 1)).length = m + 1 := by rw [List.length_take]; omega
  rw [List.take_append_of_le_length (by omega), List.take_take, show min m (m + 1) = m by omega, List.drop_left' hl]
theorem once_is {l : List Opr} (h : OkL l) (hu : ∀ i < l.length, OpU (l.getD i opr0)) {i : Nat} (hi : i < l.length) (hb : ∀ j < i, firB l j = false) (hf : firB l i = true) :
    wiF l (gonF l i) l.length = (trF l (i + 1)).1.map Prod.fst ++ l.drop (i + 1) := by
  have et : trF l (i + 1) = trS (l.getD i opr0) (fulF l i).1 (fulF l i).2 := by
    show trS _ (trF l i).1 (trF l i).2 = _
    rw [trF_ful h hu i (by omega) hb]
  unfold firB at hf
  rw [Bool.and_eq_true] at hf
  obtain ⟨ht, hf⟩ := hf
  obtain ⟨ms, e, m0, m1⟩ := mat_in h hi ht
  obtain ⟨m, hm⟩ : ∃ m : Nat, mat l i = (m : Int) := ⟨(mat l i).toNat, by omega⟩
  have hmap := fulF_map l i (by omega)
  have hlen := fulF_len l i
  rw [et]
  unfold trS gonF
  rw [if_pos ht, ful_last ht, hlen, hm, Int.toNat_natCast]
  by_cases h1 : oneB l i = true
  · rw [if_pos h1]
    have hc : m + 1 = i ∨ trnO (l.getD i opr0) = true := by
      unfold oneB at h1
      rw [Bool.or_assoc, ← trn_is (hu i hi), Bool.or_eq_true, beq_iff_eq] at h1
      rcases h1 with h1 | h1
      · exact .inl (by omega)
      · exact .inr h1
    rw [if_pos hc, wi_two (by omega) hi]
    rw [List.map_append, List.map_take, List.map_drop, hmap, List.take_take, show min m i = m by omega]
  · have h1' : oneB l i = false := by simpa using h1
    rw [if_neg h1]
    rw [h1', Bool.false_or] at hf
    unfold twoB at hf
    rw [Bool.and_eq_true, Bool.and_eq_true, beq_iff_eq, beq_iff_eq, beq_iff_eq] at hf
    obtain ⟨⟨k4, p4⟩, pm⟩ := hf
    have hnc : ¬ (m + 1 = i ∨ trnO (l.getD i opr0) = true) := by
      unfold oneB at h1'
      rw [Bool.or_assoc, ← trn_is (hu i hi), Bool.or_eq_false_iff, beq_eq_false_iff_ne] at h1'
      rintro (q | q)
      · exact h1'.1 (by omega)
      · rw [h1'.2] at q; cases q
    rw [if_neg hnc]
    obtain ⟨k, rfl⟩ : ∃ k, i = k + 1 := ⟨i - 1, by omega⟩
    rw [Nat.add_sub_cancel] at p4 pm
    have htk : takO (l.getD k opr0) = true := by unfold takO; rw [p4]; rfl
    obtain ⟨_, _, _, mk1⟩ := mat_in h (i := k) (by omega) htk
    have hlast : (fulF l (k + 1)).1 = (fulF l k).1 ++ [(l.getD k opr0, (k : Int) - mat l k)] := by
      show (addS _ _).1 = _
      unfold addS
      rw [if_pos htk, fulF_len, ful_last htk]
    have hg : ((l.getD (k + 1) opr0).kind == 4 && gabO ((fulF l (k + 1)).1.getLastD (opr0, 0)) (((k + 1 : Nat) : Int) - 1) (m : Int)) = true := by
      rw [hlast, List.getLastD_concat, k4]
      unfold gabO
      rw [Bool.and_eq_true, Bool.and_eq_true, beq_iff_eq, beq_iff_eq, beq_iff_eq]
      exact ⟨rfl, p4, by simp only []; omega⟩
    rw [if_pos hg, wi_four (by omega) hi]
    have hdl : (fulF l (k + 1)).1.dropLast = (fulF l k).1 := by rw [hlast, List.dropLast_concat]
    rw [hdl, drop3_eq (by rw [fulF_len]; omega), List.map_append, List.map_take, List.map_drop, fulF_map l k (by omega), List.take_take, show min m k = m by omega, Nat.add_sub_cancel]
theorem wiF_le (l : List Opr) (at_ : List Int) : ∀ k, (wiF l at_ k).length ≤ k
  | 0 => Nat.le_refl _
  | k + 1 => by
    have := wiF_le l at_ k
    show (if _ then _ else _ : List Opr).length ≤ _
    split
    · omega
    · rw [List.length_append, List.length_singleton]; omega
theorem wiF_lt (l : List Opr) {at_ : List Int} {i : Nat} (h : hitB at_ i = true) : ∀ k, i < k → (wiF l at_ k).length < k
  | 0, hk => by omega
  | k + 1, hk => by
    have h0 := wiF_le l at_ k
    by_cases e : i = k
    · subst e
      rw [wiF_gone h]; omega
    · have := wiF_lt l h k (by omega)
      show (if _ then _ else _ : List Opr).length < _
      split
      · omega
      · rw [List.length_append, List.length_singleton]; omega
theorem wiF_mem (l : List Opr) (at_ : List Int) : ∀ k, k ≤ l.length → ∀ x ∈ wiF l at_ k, ∃ j, j < l.length ∧ x = l.getD j opr0
  | 0, _, x, hx => by cases hx
  | k + 1, hk, x, hx => by
    have ih := wiF_mem l at_ k (by omega) x
    have hx' : x ∈ (if hitB at_ k = true then wiF l at_ k else wiF l at_ k ++ [l.getD k opr0]) := hx
    split at hx'
    · exact ih hx'
    · rcases List.mem_append.1 hx' with h | h
      · exact ih h
      · exact ⟨k, by omega, by simpa using h⟩
theorem once_same {l : List Opr} (h : OkL l) (hu : ∀ i < l.length, OpU (l.getD i opr0)) {i : Nat} (hi : i < l.length) (hb : ∀ j < i, firB l j = false) (hf : firB l i = true) :
    kpL (wiF l (gonF l i) l.length) = kpL l ∧ OkL (wiF l (gonF l i) l.length) ∧ (wiF l (gonF l i) l.length).length < l.length ∧ ∀ j < (wiF l (gonF l i) l.length).length, OpU ((wiF l (gonF l i) l.length).getD j opr0) := by
  have hk := kpL_held h (k := i + 1) (by omega)
  refine ⟨by rw [once_is h hu hi hb hf]; exact hk.1, by rw [once_is h hu hi hb hf]; exact hk.2, ?_, ?_⟩
  · refine wiF_lt l (i := i) (hit_yes ?_) _ hi
    unfold gonF
    split <;> simp
  · intro j hj
    obtain ⟨q, hq, e⟩ := wiF_mem l (gonF l i) l.length (Nat.le_refl _) ((wiF l (gonF l i) l.length).getD j opr0) (by rw [List.getD_eq_getElem?_getD, List.getElem?_eq_getElem hj]; exact List.getElem_mem _)
    rw [e]; exact hu q hq
end Go.Proofs.YtienedhaogjahaaGreatDoor
