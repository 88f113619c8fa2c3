/- Package code: Trim of any code that may be. Trimmed code in plain words: pieces that are nested well stay as they are. What is kept of a code that may be: pieces that are nested well, with the open marks between them. Trimmed code: it may be, trimmed again it stays, and nothing in it can go. Trimmed code: what CodeLeast asks of it, in plain words. The walk of CodeChecks. -/
import Derived.Test.YtonojdapfnlckaaGreatDoorHbe
import Derived.Test.YtonojdapfnlckaaGreatDoorHbc
import Derived.Test.YtonojdapfnlckaaGreatDoorHbb
namespace Go.Proofs.YtonojdapfnlckaaGreatDoor
open Go.RowKit

def trS (o : Opr) (cs : List (Opr × Int)) (ms : List Int) : List (Opr × Int) × List Int :=
  if takO o = true then
    (if (ms.getLastD 0).toNat + 1 = cs.length ∨ trnO o = true then cs.take (ms.getLastD 0).toNat ++ cs.drop ((ms.getLastD 0).toNat + 1)
      else if (o.kind == 4 && gabO (cs.getLastD (opr0, 0)) ((cs.length : Int) - 1) (ms.getLastD 0)) = true then drop3 cs.dropLast (ms.getLastD 0).toNat
      else cs ++ [(o, (cs.length : Int) - ms.getLastD 0)], ms.dropLast)
  else if o.kind = 1 then (cs ++ [(o, 0)], ms ++ [(cs.length : Int)]) else (cs ++ [(o, 0)], ms)
def trF (l : List Opr) : Nat → List (Opr × Int) × List Int
  | 0 => ([], [])
  | k + 1 => trS (l.getD k opr0) (trF l k).1 (trF l k).2
structure TrI (cs : List (Opr × Int)) (ms : List Int) (k : Nat) : Prop where
  inc : ms.Pairwise (· < ·)
  rng : ∀ v ∈ ms, 0 ≤ v ∧ v < cs.length
  bk : ∀ x ∈ cs, 0 ≤ x.2 ∧ x.2 ≤ 90000 ∧ (x.1.kind = 4 → 1 ≤ x.2)
  len : cs.length ≤ k
  mlen : ms.length ≤ k
theorem drop3_mem {r : List (Opr × Int)} {m : Nat} {y : Opr × Int} (h : y ∈ drop3 r m) : y ∈ r := by
  unfold drop3 at h
  rcases List.mem_append.1 h with h | h
  · have h := List.mem_of_mem_take h
    rcases List.mem_append.1 h with h | h
    · exact List.mem_of_mem_take h
    · exact List.mem_of_mem_drop h
  · have h := List.mem_of_mem_drop h
    rcases List.mem_append.1 h with h | h
    · exact List.mem_of_mem_take h
    · exact List.mem_of_mem_drop h
theorem drop3_len {r : List (Opr × Int)} {m : Nat} (h : m + 2 ≤ r.length) : (drop3 r m).length = r.length - 2 := by
  unfold drop3
  have e : (r.take (m + 1) ++ r.drop (m + 1 + 1)).length = r.length - 1 := by rw [List.length_append, List.length_take, List.length_drop]; omega
  rw [List.length_append, List.length_take, List.length_drop, e]
  omega
theorem snoc_of {α : Type} {l : List α} (h : l ≠ []) : ∃ r x, l = r ++ [x] := ⟨l.dropLast, l.getLast h, (List.dropLast_concat_getLast h).symm⟩
theorem trI_step {o : Opr} {cs : List (Opr × Int)} {ms : List Int} {k : Nat} (h : TrI cs ms k) (hk : k ≤ 8192) (hne : takO o = true → ms ≠ []) : TrI (trS o cs ms).1 (trS o cs ms).2 (k + 1) ∧ TStep o cs ms (trS o cs ms) := by
  unfold trS
  by_cases ht : takO o = true
  · rw [if_pos ht]
    obtain ⟨ms0, v, rfl⟩ := snoc_of (hne ht)
    have hv := h.rng v (by simp)
    obtain ⟨m, rfl⟩ : ∃ m : Nat, v = (m : Int) := ⟨v.toNat, by omega⟩
    obtain ⟨r, x, rfl⟩ := snoc_of (l := cs) (fun e => by subst e; simp at hv; omega)
    have hl : (r ++ [x]).length = r.length + 1 := by simp
    have hinc := List.pairwise_append.1 h.inc
    have hlt : ∀ u ∈ ms0, u < (m : Int) := fun u hu => hinc.2.2 u hu _ (by simp)
    have hx := h.bk x (by simp)
    have hlen := h.len
    have hml := h.mlen
    rw [List.length_append, List.length_singleton] at hml
    rw [hl] at hv hlen
    simp only [List.getLastD_concat, List.dropLast_concat, Int.toNat_natCast, hl]
    have hinc0 : ms0.Pairwise (· < ·) := hinc.1
    have key : ∀ cs', (∀ y ∈ cs', y ∈ r ++ [x] ∨ y = (o, (r.length : Int) + 1 - (m : Int))) → m ≤ cs'.length → cs'.length ≤ k + 1 → (o.kind = 4 → (m : Int) < (r.length : Int) + 1) → TrI cs' ms0 (k + 1) := fun cs' hm1 hm2 hm3 _ => ⟨hinc0, fun u hu => ⟨(h.rng u (by simp [hu])).1, by have := hlt u hu; omega⟩, fun y hy => by
      rcases hm1 y hy with hy | rfl
      · exact h.bk y hy
      · exact ⟨by dsimp only; omega, by dsimp only; omega, fun _ => by dsimp only; omega⟩, hm3, by omega⟩
    by_cases hd : m + 1 = r.length + 1 ∨ trnO o = true
    · rw [if_pos hd]
      refine ⟨key _ (fun y hy => .inl ?_) ?_ ?_ (fun _ => by omega), .take _ _ ht fun B b cv mv w t hb => ?_⟩
      · rcases List.mem_append.1 hy with hy | hy
        · exact List.mem_of_mem_take hy
        · exact List.mem_of_mem_drop hy
      · rw [List.length_append, List.length_take, List.length_drop, hl]; omega
      · rw [List.length_append, List.length_take, List.length_drop, hl]; omega
      · exact trTake_drop B b r.length m ms0.length cv mv r x ms0 o w t hb rfl rfl (by omega) (by omega) (by omega) (by rcases hd with h | h; exact .inl (by omega); exact .inr h)
    · rw [if_neg hd]
      have htn : trnO o = false := by
        cases e : trnO o
        · rfl
        · exact absurd (.inr e) hd
      have hmr : m < r.length := by
        rcases Nat.lt_or_ge m r.length with h' | h'
        · exact h'
        · exact absurd (.inl (by omega)) hd
      have eg : ((r.length + 1 : Nat) : Int) - 1 = (r.length : Int) := by omega
      rw [eg]
      have hg := fun B b cv mv w t hb => trTake_gen B b r.length m ms0.length cv mv r x ms0 o w t hb rfl rfl (by omega) (by omega) hmr hx.1 (by omega) hx.2.2 htn
      by_cases hq : (o.kind == 4 && gabO x (r.length : Int) (m : Int)) = true
      · rw [if_pos hq]
        simp only [if_pos hq] at hg
        have hm2 : m + 2 ≤ r.length := by
          rw [Bool.and_eq_true] at hq
          have e := hq.2
          unfold gabO at e
          rw [Bool.and_eq_true, beq_iff_eq, beq_iff_eq] at e
          have := hx.2.2 e.1
          omega
        refine ⟨key _ (fun y hy => .inl (by simp [drop3_mem hy])) ?_ ?_ (fun _ => by omega), .take _ _ ht fun B b cv mv w t hb => hg B b cv mv w t hb⟩
        · rw [drop3_len hm2]; omega
        · rw [drop3_len hm2]; omega
      · rw [if_neg hq]
        simp only [if_neg hq] at hg
        have en : ((r.length + 1 : Nat) : Int) - (m : Int) = (r.length : Int) + 1 - (m : Int) := by omega
        rw [en]
        refine ⟨key _ (fun y hy => ?_) ?_ ?_ (fun _ => by omega), .take _ _ ht fun B b cv mv w t hb => hg B b cv mv w t hb⟩
        · rcases List.mem_append.1 hy with hy | hy
          · exact .inl hy
          · exact .inr (by simpa using hy)
        · rw [List.length_append, hl]; omega
        · rw [List.length_append, hl, List.length_singleton]; omega
  · rw [if_neg ht]
    have ht' : takO o = false := by simpa using ht
    have hlen := h.len
    have hml := h.mlen
    have hb : ∀ x ∈ cs ++ [(o, (0 : Int))], 0 ≤ x.2 ∧ x.2 ≤ 90000 ∧ (x.1.kind = 4 → 1 ≤ x.2) := fun x hx => by
      rcases List.mem_append.1 hx with hx | hx
      · exact h.bk x hx
      · obtain rfl : x = (o, 0) := by simpa using hx
        refine ⟨Int.le_refl _, (by decide : (0 : Int) ≤ 90000), fun h4 => ?_⟩
        have h4' : o.kind = 4 := h4
        unfold takO at ht'
        rw [h4'] at ht'
        exact absurd ht' (by decide)
    by_cases h1 : o.kind = 1
    · rw [if_pos h1]
      refine ⟨⟨?_, ?_, hb, by simp; omega, by simp; omega⟩, .mark h1⟩
      · refine List.pairwise_append.2 ⟨h.inc, List.pairwise_singleton _ _, fun u hu v hv => ?_⟩
        obtain rfl : v = (cs.length : Int) := by simpa using hv
        exact (h.rng u hu).2
      · intro v hv
        rcases List.mem_append.1 hv with hv | hv
        · have := h.rng v hv
          rw [List.length_append, List.length_singleton]
          omega
        · obtain rfl : v = (cs.length : Int) := by simpa using hv
          rw [List.length_append, List.length_singleton]
          omega
    · rw [if_neg h1]
      refine ⟨⟨h.inc, fun v hv => ?_, hb, by simp; omega, by show ms.length ≤ k + 1; omega⟩, .other h1 ht'⟩
      have := h.rng v hv
      rw [List.length_append, List.length_singleton]
      omega
theorem trS_len {o : Opr} {cs : List (Opr × Int)} {ms : List Int} (hne : takO o = true → ms ≠ []) : ((trS o cs ms).2.length : Int) = if o.kind = 1 then (ms.length : Int) + 1 else if takO o then (ms.length : Int) - 1 else (ms.length : Int) := by
  unfold trS
  by_cases ht : takO o = true
  · have h1 : o.kind ≠ 1 := fun e => by
      unfold takO at ht
      rw [e] at ht
      exact absurd ht (by decide)
    have := List.length_pos_iff.2 (hne ht)
    rw [if_pos ht, if_neg h1, if_pos ht, List.length_dropLast]
    omega
  · by_cases h1 : o.kind = 1
    · rw [if_neg ht, if_pos h1, if_pos h1, List.length_append, List.length_singleton]
      omega
    · rw [if_neg ht, if_neg h1, if_neg h1, if_neg ht]
theorem mea_fine {l : List Opr} {m E A : Int} (h : MeaR l m E A) : E = 0 → l.length ≤ 8192 ∧ ∀ i < l.length, badO (l.getD i opr0) (mkN l i) = 0 := fun hE => by
  cases h with
  | long => cases hE
  | bad k E h hk hp he h0 => exact absurd hE h0
  | left => cases hE
  | fine h hp hm => exact ⟨h, hp⟩
theorem bad_take {o : Opr} (h : takO o = true) : ¬ badO o ((0 : Nat) : Int) = 0 := fun e => by
  unfold badO at e
  simp [h] at e
theorem trF_ok {l : List Opr} (hn2 : l.length ≤ 8192) (hp : ∀ i < l.length, badO (l.getD i opr0) (mkN l i) = 0) : ∀ k, k ≤ l.length → TrI (trF l k).1 (trF l k).2 k ∧ ((trF l k).2.length : Int) = mkN l k ∧ ∀ j < k, TStep (l.getD j opr0) (trF l j).1 (trF l j).2 (trF l (j + 1))
  | 0, _ => ⟨⟨List.Pairwise.nil, (fun v hv => by cases hv), (fun v hv => by cases hv), Nat.le_refl _, Nat.le_refl _⟩, rfl, fun j hj => by omega⟩
  | k + 1, hk => by
    obtain ⟨h1, h2, h3⟩ := trF_ok hn2 hp k (by omega)
    have hb := hp k (by omega)
    have hne : takO (l.getD k opr0) = true → (trF l k).2 ≠ [] := fun ht e => by
      rw [e] at h2
      rw [← h2] at hb
      exact absurd hb (bad_take ht)
    obtain ⟨g1, g2⟩ := trI_step h1 (by omega) hne
    refine ⟨g1, ?_, fun j hj => ?_⟩
    · have e : mkN l (k + 1) = if (l.getD k opr0).kind = 1 then mkN l k + 1 else if takO (l.getD k opr0) then mkN l k - 1 else mkN l k := rfl
      rw [e, ← h2]
      exact trS_len hne
    · by_cases e : j = k
      · subst e; exact g2
      · exact h3 j (by omega)
theorem cTrim_any {l : List Opr} {m : Int} (hm : MeaR l m 0 0) (p : Option Addr) (b0 off c : Nat) (hu : ∀ i < l.length, OpU (l.getD i opr0)) (w : World) (hs : OSrc w p b0 off l) :
    Calls Tryz.prog 6 #[.slice p l.length c] w fun e w' => ∃ v, e = .returned (.tuple #[v, .int .i64 0]) ∧ w'.ownsRow w.heap.size 35 9 v (trF l l.length).1.length (rowV opC ((trF l l.length).1.map Prod.fst)) ∧ Below w.heap.size w w' := by
  obtain ⟨hl, hp⟩ : l.length ≤ 8192 ∧ ∀ i < l.length, badO (l.getD i opr0) (mkN l i) = 0 := mea_fine hm rfl
  refine cTrim_go hm l.length p b0 off c rfl (by omega) hu (trF l) rfl (trF_ok hl hp l.length (Nat.le_refl _)).2.2 (fun k hk => ?_) w hs
  have h := (trF_ok hl hp k hk).1
  exact ⟨Nat.le_trans h.len (by omega), Nat.le_trans h.mlen (by omega)⟩
end Go.Proofs.YtonojdapfnlckaaGreatDoor
namespace Go.Proofs.YtonojdapfnlckaaGreatDoor

def runT (l : List Opr) (st : List (Opr × Int) × List Int) : List (Opr × Int) × List Int := l.foldl (fun s o => trS o s.1 s.2) st
theorem runT_append (a b : List Opr) (st : List (Opr × Int) × List Int) : runT (a ++ b) st = runT b (runT a st) := List.foldl_append
theorem runT_one (o : Opr) (st : List (Opr × Int) × List Int) : runT [o] st = trS o st.1 st.2 := rfl
theorem trF_run (l : List Opr) : ∀ k, k ≤ l.length → trF l k = runT (l.take k) ([], [])
  | 0, _ => rfl
  | k + 1, hk => by
    rw [take_more l opr0 k (by omega), runT_append, ← trF_run l k (by omega), runT_one]
    rfl
inductive WN : Nat → List (Opr × Int) → Prop
  | nil {h : Nat} : WN h []
  | other {h : Nat} {s : List (Opr × Int)} {o : Opr} : WN h s → o.kind ≠ 1 → takO o = false → fitO o = true → WN h (s ++ [(o, 0)])
  | blk {h : Nat} {s r : List (Opr × Int)} {q o : Opr} {x : Opr × Int} : WN (h + 1) s → WN h (r ++ [x]) → q.kind = 1 → takO o = true → trnO o = false → ¬ (o.kind = 4 ∧ x.1.kind = 4 ∧ x.2 = (r.length : Int)) → fitO q = true → fitO o = true → WN (h + 1) (s ++ ((q, 0) :: (r ++ [x])) ++ [(o, (r.length : Int) + 2)])
theorem WN.append {h : Nat} {s t : List (Opr × Int)} (hs : WN h s) (ht : WN h t) : WN h (s ++ t) := by
  induction ht with
  | nil => rw [List.append_nil]; exact hs
  | other _ h1 h2 h3 ih => rw [← List.append_assoc]; exact .other (ih hs) h1 h2 h3
  | blk _ h2 h3 h4 h5 h6 h7 h8 ih _ => rw [← List.append_assoc, ← List.append_assoc]; exact .blk (ih hs) h2 h3 h4 h5 h6 h7 h8
theorem WN.up {h : Nat} {s : List (Opr × Int)} (hs : WN h s) : WN (h + 1) s := by
  induction hs with
  | nil => exact .nil
  | other _ h1 h2 h3 ih => exact .other ih h1 h2 h3
  | blk _ h2 h3 h4 h5 h6 h7 h8 ih1 ih2 => exact .blk ih1 ih2 h3 h4 h5 h6 h7 h8
theorem mark_not_takes {q : Opr} (h : q.kind = 1) : takO q = false := by unfold takO; rw [h]; rfl
theorem WN.run {n : Nat} {s : List (Opr × Int)} (h : WN n s) : ∀ cs ms, runT (s.map Prod.fst) (cs, ms) = (cs ++ s, ms) := by
  induction h with
  | nil => intro cs ms; rw [List.append_nil]; rfl
  | other _ h1 h2 _ ih =>
    intro cs ms
    rw [List.map_append, runT_append, ih cs ms]
    show trS _ _ _ = _
    unfold trS
    rw [if_neg (by rw [h2]; decide), if_neg h1, List.append_assoc]
  | @blk n s r q o x _ _ h3 h4 h5 h6 _ _ ih1 ih2 =>
    intro cs ms
    have e1 : runT [q] (cs ++ s, ms) = (cs ++ s ++ [(q, 0)], ms ++ [((cs ++ s).length : Int)]) := by
      show trS _ _ _ = _
      unfold trS
      rw [if_neg (by rw [mark_not_takes h3]; decide), if_pos h3]
    have e2 : (s ++ ((q, 0) :: (r ++ [x])) ++ [(o, (r.length : Int) + 2)]).map Prod.fst = s.map Prod.fst ++ ([q] ++ ((r ++ [x]).map Prod.fst ++ [o])) := by simp
    rw [e2, runT_append, ih1 cs ms, runT_append, e1, runT_append, ih2]
    show trS o _ _ = _
    generalize hA : cs ++ s = A
    have hl : (A ++ [(q, 0)] ++ (r ++ [x])).length = A.length + r.length + 2 := by simp; omega
    unfold trS
    rw [if_pos h4]
    simp only [List.getLastD_concat, List.dropLast_concat, Int.toNat_natCast]
    rw [if_neg (by rw [hl, h5]; intro h; rcases h with h | h; omega; cases h)]
    have eL : (A ++ [(q, 0)] ++ (r ++ [x])).getLastD (opr0, 0) = x := by rw [← List.append_assoc]; exact List.getLastD_concat
    rw [eL, if_neg]
    · rw [hl]
      congr 1
      rw [← hA]
      simp only [List.append_assoc, List.cons_append, List.nil_append]
      congr 5
      rw [show (((cs ++ s).length + r.length + 2 : Nat) : Int) - ((cs ++ s).length : Int) = (r.length : Int) + 2 by omega]
    · intro h
      rw [Bool.and_eq_true, beq_iff_eq] at h
      obtain ⟨h7, h8⟩ := h
      unfold gabO at h8
      rw [Bool.and_eq_true, beq_iff_eq, beq_iff_eq, hl] at h8
      exact h6 ⟨h7, h8.1, by omega⟩
end Go.Proofs.YtonojdapfnlckaaGreatDoor
namespace Go.Proofs.YtonojdapfnlckaaGreatDoor

inductive SI : List (Opr × Int) → List Int → Prop
  | base {s : List (Opr × Int)} : WN 63 s → SI s []
  | more {h : Nat} {cs s : List (Opr × Int)} {ms : List Int} {q : Opr} : SI cs ms → q.kind = 1 → fitO q = true → ms.length + 1 + h = 63 → WN h s → SI (cs ++ ((q, 0) :: s)) (ms ++ [(cs.length : Int)])
theorem SI.lift {n : Nat} {cs s : List (Opr × Int)} {ms : List Int} (h : SI cs ms) (hs : WN n s) (hn : ms.length + n = 63) : SI (cs ++ s) ms := by
  cases h with
  | base h =>
    obtain rfl : n = 63 := by simpa using hn
    exact .base (h.append hs)
  | @more n' cs' s' ms' q h hq hf hn' ht =>
    obtain rfl : n = n' := by rw [List.length_append, List.length_singleton] at hn; omega
    rw [List.append_assoc, List.cons_append]
    exact .more h hq hf hn' (ht.append hs)
theorem WN.give {n : Nat} {r : List (Opr × Int)} {x : Opr × Int} (h : WN n (r ++ [x])) (h4 : x.1.kind = 4) (hl : x.2 = (r.length : Int)) : ∃ q t, r = (q, 0) :: t ∧ WN n t := by
  generalize e : r ++ [x] = l at h
  cases h with
  | nil => simp at e
  | @other _ s o _ h1 h2 =>
    obtain ⟨rfl, e2⟩ := List.append_inj' e rfl
    obtain rfl : x = (o, 0) := by simpa using e2
    unfold takO at h2
    rw [show o.kind = 4 from h4] at h2
    exact absurd h2 (by decide)
  | @blk _ s r' q o x' _ h2 =>
    obtain ⟨rfl, e2⟩ := List.append_inj' e rfl
    obtain rfl : x = (o, (r'.length : Int) + 2) := by simpa using e2
    have hs : s = [] := by
      apply List.length_eq_zero_iff.1
      simp at hl
      omega
    subst hs
    exact ⟨q, r' ++ [x'], rfl, h2.up⟩
theorem SI.step {o : Opr} {cs : List (Opr × Int)} {ms : List Int} (h : SI cs ms) (hne : takO o = true → ms ≠ []) (hf : fitO o = true) (h63 : ms.length ≤ 63) (h62 : o.kind = 1 → ms.length ≤ 62) : SI (trS o cs ms).1 (trS o cs ms).2 := by
  unfold trS
  by_cases ht : takO o = true
  · rw [if_pos ht]
    cases h with
    | base h => exact absurd rfl (hne ht)
    | @more n A s ms0 q hA hq hfq hn hs =>
      have e1 : (A ++ (q, 0) :: s).take A.length = A := by simp
      have e2 : (A ++ (q, 0) :: s).drop (A.length + 1) = s := by
        rw [show A ++ (q, (0 : Int)) :: s = (A ++ [(q, 0)]) ++ s by simp]
        exact List.drop_left' (by simp)
      simp only [List.getLastD_concat, List.dropLast_concat, Int.toNat_natCast]
      rw [e1, e2]
      by_cases hd : A.length + 1 = (A ++ (q, (0 : Int)) :: s).length ∨ trnO o = true
      · rw [if_pos hd]
        exact hA.lift hs.up (by omega)
      · rw [if_neg hd]
        have htn : trnO o = false := by
          cases e : trnO o
          · rfl
          · exact absurd (.inr e) hd
        have hn : s ≠ [] := fun e => hd (.inl (by rw [e]; simp))
        obtain ⟨r, x, rfl⟩ := snoc_of hn
        have eb : A ++ (q, (0 : Int)) :: (r ++ [x]) = (A ++ (q, 0) :: r) ++ [x] := by simp
        have el : (A ++ (q, (0 : Int)) :: (r ++ [x])).length = A.length + r.length + 2 := by simp; omega
        rw [el, eb, List.getLastD_concat, List.dropLast_concat]
        by_cases hg : (o.kind == 4 && gabO x (((A.length + r.length + 2 : Nat) : Int) - 1) (A.length : Int)) = true
        · rw [if_pos hg]
          rw [Bool.and_eq_true] at hg
          have g2 := hg.2
          unfold gabO at g2
          rw [Bool.and_eq_true, beq_iff_eq, beq_iff_eq] at g2
          obtain ⟨q', t, rfl, hw⟩ := hs.give g2.1 (by omega)
          have ed : drop3 (A ++ (q, (0 : Int)) :: (q', 0) :: t) A.length = A ++ t := by
            unfold drop3
            have f1 : (A ++ (q, (0 : Int)) :: (q', 0) :: t).drop (A.length + 1 + 1) = t := by
              rw [show A ++ (q, (0 : Int)) :: (q', 0) :: t = (A ++ [(q, 0), (q', 0)]) ++ t by simp]
              exact List.drop_left' (by simp)
            have f2 : (A ++ (q, (0 : Int)) :: (q', 0) :: t).take (A.length + 1) = A ++ [(q, 0)] := by
              rw [show A ++ (q, (0 : Int)) :: (q', 0) :: t = (A ++ [(q, 0)]) ++ ((q', 0) :: t) by simp]
              exact List.take_left' (by simp)
            rw [f1, f2]
            have f3 : (A ++ [(q, (0 : Int))] ++ t).take A.length = A := by rw [List.append_assoc]; exact List.take_left' rfl
            have f4 : (A ++ [(q, (0 : Int))] ++ t).drop (A.length + 1) = t := List.drop_left' (by simp)
            rw [f3, f4]
          rw [ed]
          exact hA.lift hw.up (by omega)
        · rw [if_neg hg, ← eb]
          have := hA.lift (WN.blk .nil hs hq ht htn (fun hh => hg (by
            rw [Bool.and_eq_true]
            refine ⟨by rw [hh.1]; rfl, ?_⟩
            unfold gabO
            rw [Bool.and_eq_true, beq_iff_eq, beq_iff_eq]
            exact ⟨hh.2.1, by have := hh.2.2; omega⟩)) hfq hf) (by omega)
          rw [show ((A.length + r.length + 2 : Nat) : Int) - (A.length : Int) = (r.length : Int) + 2 by omega]
          rw [List.nil_append, ← List.append_assoc] at this
          exact this
  · rw [if_neg ht]
    by_cases h1 : o.kind = 1
    · rw [if_pos h1]
      exact .more (h := 63 - (ms.length + 1)) h h1 hf (by have := h62 h1; omega) .nil
    · rw [if_neg h1]
      exact h.lift (n := 63 - ms.length) (WN.other .nil h1 (by simpa using ht) hf) (by omega)
end Go.Proofs.YtonojdapfnlckaaGreatDoor
namespace Go.Proofs.YtonojdapfnlckaaGreatDoor

theorem trF_SI {l : List Opr} (hn2 : l.length ≤ 8192) (hp : ∀ i < l.length, badO (l.getD i opr0) (mkN l i) = 0) : ∀ k, k ≤ l.length → SI (trF l k).1 (trF l k).2
  | 0, _ => .base .nil
  | k + 1, hk => by
    have h := trF_SI hn2 hp k (by omega)
    obtain ⟨_, h2, _⟩ := trF_ok hn2 hp k (by omega)
    have hb := hp k (by omega)
    have hr := mk_range l k (fun i hi => hp i (by omega))
    refine h.step (fun ht e => ?_) ?_ (by omega) (fun h1 => ?_)
    · rw [e] at h2
      rw [← h2] at hb
      exact absurd hb (bad_take ht)
    · cases e : fitO (l.getD k opr0)
      · unfold badO at hb
        rw [if_pos (.inl e)] at hb
        cases hb
      · rfl
    · unfold badO at hb
      split at hb
      · cases hb
      · split at hb
        · cases hb
        · rename_i h3
          have : ¬ mkN l k = 63 := fun e => h3 ⟨h1, e⟩
          omega
theorem trF_WN {l : List Opr} {m : Int} (hm : MeaR l m 0 0) : (trF l l.length).2 = [] ∧ WN 63 (trF l l.length).1 ∧ (trF l l.length).1.length ≤ l.length := by
  have key : ∀ E A, MeaR l m E A → E = 0 → (trF l l.length).2 = [] ∧ WN 63 (trF l l.length).1 ∧ (trF l l.length).1.length ≤ l.length := fun E A h hE => by
    cases h with
    | long => cases hE
    | bad k E h hk hp he h0 => exact absurd hE h0
    | left => cases hE
    | fine h hp hm =>
      have hS := trF_SI h hp l.length (Nat.le_refl _)
      obtain ⟨hI, h2, _⟩ := trF_ok h hp l.length (Nat.le_refl _)
      have e : (trF l l.length).2 = [] := List.length_eq_zero_iff.1 (by omega)
      refine ⟨e, ?_, hI.len⟩
      generalize trF l l.length = q at hS e
      obtain ⟨cs, ms⟩ := q
      dsimp only at hS e ⊢
      subst e
      generalize e : ([] : List Int) = z at hS
      cases hS with
      | base h => exact h
      | more => simp at e
  exact key _ _ hm rfl
def stM (d : Int) (o : Opr) : Int := if o.kind = 1 then d + 1 else if takO o then d - 1 else d
def mkL (l : List Opr) (d : Int) : Int := l.foldl stM d
theorem mkL_append (a b : List Opr) (d : Int) : mkL (a ++ b) d = mkL b (mkL a d) := List.foldl_append
theorem mkN_L (l : List Opr) : ∀ k, k ≤ l.length → mkN l k = mkL (l.take k) 0
  | 0, _ => rfl
  | k + 1, hk => by
    rw [take_more l opr0 k (by omega), mkL_append, ← mkN_L l k (by omega)]
    rfl
def allOk : List Opr → Int → Prop
  | [], _ => True
  | o :: t, d => badO o d = 0 ∧ allOk t (stM d o)
theorem allOk_append : ∀ (a b : List Opr) (d : Int), allOk a d → allOk b (mkL a d) → allOk (a ++ b) d
  | [], _, _, _, h => h
  | _ :: t, b, _, h1, h => ⟨h1.1, allOk_append t b _ h1.2 h⟩
theorem allOk_at : ∀ (l : List Opr) (d : Int), allOk l d → ∀ i < l.length, badO (l.getD i opr0) (mkL (l.take i) d) = 0
  | [], _, _, i, hi => by cases hi
  | o :: t, d, h, 0, _ => h.1
  | o :: t, d, h, i + 1, hi => by
    have := allOk_at t _ h.2 i (by simpa using hi)
    simpa [mkL] using this
theorem bad_fit {o : Opr} {d : Int} (hf : fitO o = true) (h1 : takO o = true → d ≠ 0) (h2 : o.kind = 1 → d ≠ 63) : badO o d = 0 := by
  unfold badO
  rw [if_neg (by rintro (h | h); rw [hf] at h; cases h; exact h1 h.1 h.2), if_neg (fun h => h2 h.1 h.2)]
theorem WN.ok {n : Nat} {s : List (Opr × Int)} (h : WN n s) : ∀ d : Int, 0 ≤ d → d + n ≤ 63 → allOk (s.map Prod.fst) d ∧ mkL (s.map Prod.fst) d = d := by
  induction h with
  | nil => exact fun d _ _ => ⟨trivial, rfl⟩
  | @other n s o _ h1 h2 h3 ih =>
    intro d h0 hd
    obtain ⟨g1, g2⟩ := ih d h0 hd
    rw [List.map_append, mkL_append, g2]
    refine ⟨allOk_append _ _ _ g1 ?_, ?_⟩
    · rw [g2]
      exact ⟨bad_fit h3 (fun h => by rw [h2] at h; cases h) (fun h => absurd h h1), trivial⟩
    · show stM d o = d
      unfold stM
      rw [if_neg h1, h2]
      rfl
  | @blk n s r q o x _ _ h3 h4 h5 h6 h7 h8 ih1 ih2 =>
    intro d h0 hd
    obtain ⟨g1, g2⟩ := ih1 d h0 hd
    obtain ⟨k1, k2⟩ := ih2 (d + 1) (by omega) (by omega)
    have eq : stM d q = d + 1 := by unfold stM; rw [if_pos h3]
    have ho1 : o.kind ≠ 1 := fun e => by rw [mark_not_takes e] at h4; cases h4
    have eo : stM (d + 1) o = d := by unfold stM; rw [if_neg ho1, if_pos h4]; omega
    have e2 : (s ++ ((q, 0) :: (r ++ [x])) ++ [(o, (r.length : Int) + 2)]).map Prod.fst = s.map Prod.fst ++ ([q] ++ ((r ++ [x]).map Prod.fst ++ [o])) := by simp
    have m1 : mkL [q] d = d + 1 := eq
    have m2 : mkL [o] (d + 1) = d := eo
    rw [e2]
    refine ⟨allOk_append _ _ _ g1 ?_, ?_⟩
    · rw [g2]
      refine allOk_append _ _ _ ⟨bad_fit h7 (fun h => by rw [mark_not_takes h3] at h; cases h) (fun _ => by omega), trivial⟩ ?_
      rw [m1]
      refine allOk_append _ _ _ k1 ?_
      rw [k2]
      exact ⟨bad_fit h8 (fun _ => by omega) (fun h => absurd h ho1), trivial⟩
    · rw [mkL_append, g2, mkL_append, m1, mkL_append, k2, m2]
theorem WN.mea {s : List (Opr × Int)} (h : WN 63 s) (hl : s.length ≤ 8192) : MeaR (s.map Prod.fst) (moN (s.map Prod.fst) (s.map Prod.fst).length) 0 0 := by
  obtain ⟨g1, g2⟩ := h.ok 0 (by decide) (by decide)
  refine .fine (by rw [List.length_map]; exact hl) (fun i hi => ?_) ?_
  · rw [mkN_L _ _ (Nat.le_of_lt hi)]
    exact allOk_at _ _ g1 i hi
  · rw [mkN_L _ _ (Nat.le_refl _), List.take_length, g2]
    decide
theorem WN.still {s : List (Opr × Int)} (h : WN 63 s) : trF (s.map Prod.fst) (s.map Prod.fst).length = (s, []) := by
  rw [trF_run _ _ (Nat.le_refl _), List.take_length, h.run [] []]
  rfl
theorem WN.turns {n : Nat} {s : List (Opr × Int)} (h : WN n s) : ∀ x ∈ s, takO x.1 = true → trnO x.1 = false := by
  induction h with
  | nil => intro x hx; cases hx
  | other _ _ h2 _ ih =>
    intro x hx ht
    rcases List.mem_append.1 hx with hx | hx
    · exact ih x hx ht
    · obtain rfl : x = (_, 0) := by simpa using hx
      rw [h2] at ht
      cases ht
  | blk _ _ h3 _ h5 _ _ _ ih1 ih2 =>
    intro x hx ht
    rcases List.mem_append.1 hx with hx | hx
    · rcases List.mem_append.1 hx with hx | hx
      · exact ih1 x hx ht
      · rcases List.mem_cons.1 hx with rfl | hx
        · rw [mark_not_takes h3] at ht
          cases ht
        · exact ih2 x hx ht
    · obtain rfl : x = (_, _) := by simpa using hx
      exact h5
def adjP : Int → List Opr → Prop
  | _, [] => True
  | p, o :: t => (takO o = true → p ≠ 1) ∧ adjP o.kind t
def lastK (p : Int) (a : List Opr) : Int := a.foldl (fun _ o => o.kind) p
theorem adjP_append : ∀ (a b : List Opr) (p : Int), adjP p a → adjP (lastK p a) b → adjP p (a ++ b)
  | [], _, _, _, h => h
  | _ :: t, b, _, h1, h => ⟨h1.1, adjP_append t b _ h1.2 h⟩
theorem lastK_snoc (p : Int) (a : List Opr) (o : Opr) : lastK p (a ++ [o]) = o.kind := by unfold lastK; rw [List.foldl_append]; rfl
theorem adjP_at : ∀ (l : List Opr) (p : Int), adjP p l → ∀ i, i + 1 < l.length → takO (l.getD (i + 1) opr0) = true → (l.getD i opr0).kind ≠ 1
  | [], _, _, i, hi => by simp at hi
  | [_], _, _, i, hi => by simp at hi
  | o :: o' :: t, p, h, 0, _ => h.2.1
  | o :: o' :: t, p, h, i + 1, hi => adjP_at (o' :: t) _ h.2 i (by simpa using hi)
theorem WN.adj {n : Nat} {s : List (Opr × Int)} (h : WN n s) : ∀ p, adjP p (s.map Prod.fst) ∧ (s ≠ [] → lastK p (s.map Prod.fst) ≠ 1) := by
  induction h with
  | nil => exact fun p => ⟨trivial, fun h => absurd rfl h⟩
  | other _ h1 h2 _ ih =>
    intro p
    rw [List.map_append]
    refine ⟨adjP_append _ _ _ (ih p).1 ⟨fun h => ?_, trivial⟩, fun _ => ?_⟩
    · have h : takO _ = true := h
      rw [h2] at h
      cases h
    · exact (lastK_snoc _ _ _).symm ▸ h1
  | @blk n s r q o x _ _ h3 h4 h5 h6 h7 h8 ih1 ih2 =>
    intro p
    have e2 : (s ++ ((q, 0) :: (r ++ [x])) ++ [(o, (r.length : Int) + 2)]).map Prod.fst = s.map Prod.fst ++ ([q] ++ ((r ++ [x]).map Prod.fst ++ [o])) := by simp
    have ho1 : o.kind ≠ 1 := fun e => by rw [mark_not_takes e] at h4; cases h4
    rw [e2]
    refine ⟨adjP_append _ _ _ (ih1 p).1 (adjP_append _ _ _ ⟨fun h => ?_, trivial⟩ (adjP_append _ _ _ (ih2 _).1 ⟨fun _ => (ih2 _).2 (by simp), trivial⟩)), fun _ => ?_⟩
    · rw [mark_not_takes h3] at h
      cases h
    · rw [← List.append_assoc, ← List.append_assoc, lastK_snoc]
      exact ho1
end Go.Proofs.YtonojdapfnlckaaGreatDoor
namespace Go.Proofs.YtonojdapfnlckaaGreatDoor

theorem trS_keep (P : Opr → Prop) {o : Opr} {cs : List (Opr × Int)} {ms : List Int} (h : ∀ x ∈ cs, P x.1) (ho : P o) : ∀ x ∈ (trS o cs ms).1, P x.1 := by
  have hs : ∀ v : Int, ∀ x ∈ cs ++ [(o, v)], P x.1 := fun v x hx => by
    rcases List.mem_append.1 hx with hx | hx
    · exact h x hx
    · obtain rfl : x = (o, v) := by simpa using hx
      exact ho
  unfold trS
  split
  · dsimp only
    split
    · intro x hx
      rcases List.mem_append.1 hx with hx | hx
      · exact h x (List.mem_of_mem_take hx)
      · exact h x (List.mem_of_mem_drop hx)
    · split
      · exact fun x hx => h x (List.dropLast_subset _ (drop3_mem hx))
      · exact hs _
  · split
    · exact hs _
    · exact hs _
theorem trF_keep (P : Opr → Prop) {l : List Opr} (h : ∀ i < l.length, P (l.getD i opr0)) : ∀ k, k ≤ l.length → ∀ x ∈ (trF l k).1, P x.1
  | 0, _ => fun x hx => by cases hx
  | k + 1, hk => trS_keep P (trF_keep P h k (by omega)) (h k (by omega))
theorem MeaR.zero {l : List Opr} {M E A : Int} (h : MeaR l M E A) (hE : E = 0) : A = 0 := by
  cases h with
  | long => cases hE
  | bad k E h hk hp he h0 => exact absurd hE h0
  | left => cases hE
  | fine => rfl
def kpL (l : List Opr) : List Opr := (trF l l.length).1.map Prod.fst
theorem kpL_len {l : List Opr} {m : Int} (hm : MeaR l m 0 0) : (kpL l).length ≤ l.length := by
  unfold kpL
  rw [List.length_map]
  exact (trF_WN hm).2.2
theorem kpL_at {l : List Opr} {i : Nat} (hi : i < (kpL l).length) : ∃ x ∈ (trF l l.length).1, (kpL l).getD i opr0 = x.1 := by
  unfold kpL at hi ⊢
  rw [List.length_map] at hi
  refine ⟨(trF l l.length).1[i], List.getElem_mem hi, ?_⟩
  simp [List.getD, List.getElem?_eq_getElem hi]
theorem kpL_opU {l : List Opr} (hu : ∀ i < l.length, OpU (l.getD i opr0)) : ∀ i < (kpL l).length, OpU ((kpL l).getD i opr0) := fun i hi => by
  obtain ⟨x, hx, e⟩ := kpL_at hi
  rw [e]
  exact trF_keep OpU hu _ (Nat.le_refl _) x hx
theorem kpL_mea {l : List Opr} {m : Int} (hm : MeaR l m 0 0) : MeaR (kpL l) (moN (kpL l) (kpL l).length) 0 0 :=
  (trF_WN hm).2.1.mea (Nat.le_trans (trF_WN hm).2.2 (mea_fine hm rfl).1)
theorem kpL_still {l : List Opr} {m : Int} (hm : MeaR l m 0 0) : kpL (kpL l) = kpL l := by
  have := (trF_WN hm).2.1.still
  unfold kpL
  rw [this]
theorem kpL_turns {l : List Opr} {m : Int} (hm : MeaR l m 0 0) (i : Nat) (hi : i < (kpL l).length) : ((kpL l).getD i opr0).kind = 5 → ((kpL l).getD i opr0).x ≠ 4607182418800017408 := fun h5 hx => by
  obtain ⟨x, hx', e⟩ := kpL_at hi
  rw [e] at h5 hx
  have ht : takO x.1 = true := by unfold takO; rw [h5]; rfl
  have h := (trF_WN hm).2.1.turns x hx' ht
  unfold trnO at h
  rw [h5, hx, show (FloatKind.f64.format.order 4607182418800017408 4607182418800017408 == some .eq) = true by decide] at h
  have h' : (true || _) = false := h
  cases h'
theorem kpL_once {l : List Opr} {m : Int} (hm : MeaR l m 0 0) (i : Nat) (hi : i < (kpL l).length) : ((kpL l).getD i opr0).kind = 7 → ((kpL l).getD i opr0).n ≠ 1 := fun h7 hn => by
  obtain ⟨x, hx', e⟩ := kpL_at hi
  rw [e] at h7 hn
  have ht : takO x.1 = true := by unfold takO; rw [h7]; rfl
  have h := (trF_WN hm).2.1.turns x hx' ht
  unfold trnO at h
  rw [h7, hn] at h
  have h' : (false || true) = false := h
  cases h'
theorem kpL_mark {l : List Opr} {m : Int} (hm : MeaR l m 0 0) (i : Nat) (hi : i + 1 < (kpL l).length) : takO ((kpL l).getD (i + 1) opr0) = true → ((kpL l).getD i opr0).kind ≠ 1 :=
  adjP_at _ 0 ((trF_WN hm).2.1.adj 0).1 i hi
end Go.Proofs.YtonojdapfnlckaaGreatDoor
namespace Go.Proofs.YtonojdapfnlckaaGreatDoor
open Go.RowKit

theorem first_not (P : Nat → Prop) : ∀ n, (∀ i < n, P i) ∨ ∃ k, k < n ∧ ¬ P k ∧ ∀ i < k, P i
  | 0 => .inl fun i h => by omega
  | n + 1 => by
    rcases first_not P n with h | ⟨k, hk, h1, h2⟩
    · by_cases hp : P n
      · exact .inl fun i hi => by
          by_cases e : i = n
          · rw [e]; exact hp
          · exact h i (by omega)
      · exact .inr ⟨n, by omega, hp, h⟩
    · exact .inr ⟨k, by omega, h1, h2⟩
theorem meaR_ex (l : List Opr) : ∃ M E A, MeaR l M E A := by
  by_cases hl : 8192 < l.length
  · exact ⟨_, _, _, .long hl⟩
  · rcases first_not (fun i => badO (l.getD i opr0) (mkN l i) = 0) l.length with h | ⟨k, hk, h1, h2⟩
    · by_cases hm : 0 < mkN l l.length
      · exact ⟨_, _, _, .left (by omega) h hm⟩
      · exact ⟨_, _, _, .fine (by omega) h hm⟩
    · exact ⟨_, _, _, .bad k _ (by omega) hk h2 rfl h1⟩
end Go.Proofs.YtonojdapfnlckaaGreatDoor
