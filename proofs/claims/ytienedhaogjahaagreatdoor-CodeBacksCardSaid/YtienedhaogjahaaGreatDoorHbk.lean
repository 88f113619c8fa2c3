/- What is kept of a code that may be: pieces that are nested well, with the open marks between them. Trimmed code: it may be, trimmed again it stays, and nothing in it can go. Trimmed code: what CodeLeast asks of it, in plain words. The document's trimming, one thing at a time, in plain words: what it leaves is what the trimmer keeps. Package code: a tree out of code. Deals compiled, and code as a tree, in plain words: the code of the tree of a code is that code; code of a tree may be. Package code: Back of any code. -/
import Derived.Test.YtienedhaogjahaaGreatDoorHbj
import Derived.Test.YtienedhaogjahaaGreatDoorFlt
import Derived.Test.YtienedhaogjahaaGreatDoorHbc
import Derived.Test.YtienedhaogjahaaGreatDoorHbg
import Derived.Test.YtienedhaogjahaaGreatDoorHbf
namespace Go.Proofs.YtienedhaogjahaaGreatDoor

inductive SI : List (Opr × Int) → List Int → Prop
  | base {s : List (Opr × Int)} : WN 63 s → SI s []
  | more {h : Nat} {cs s : List (Opr × Int)} {ms : List Int} {q : Opr} : SI cs ms → q.kind = 1 → fitO q = true → ms.length + 1 + h = 63 → WN h s → SI (cs ++ ((q, 0) :: s)) (ms ++ [(cs.length : Int)])
theorem SI.lift {n : Nat} {cs s : List (Opr × Int)} {ms : List Int} (h : SI cs ms) (hs : WN n s) (hn : ms.length + n = 63) : SI (cs ++ s) ms := by
  cases h with
  | base h =>
    obtain rfl : n = 63 := by simpa using hn
    exact .base (h.append hs)
  | @more n' cs' s' ms' q h hq hf hn' ht =>
    obtain rfl : n = n' := by rw [List.length_append, List.length_singleton] at hn; omega
    rw [List.append_assoc, List.cons_append]
    exact .more h hq hf hn' (ht.append hs)
theorem WN.give {n : Nat} {r : List (Opr × Int)} {x : Opr × Int} (h : WN n (r ++ [x])) (h4 : x.1.kind = 4) (hl : x.2 = (r.length : Int)) : ∃ q t, r = (q, 0) :: t ∧ WN n t := by
  generalize e : r ++ [x] = l at h
  cases h with
  | nil => simp at e
  | @other _ s o _ h1 h2 =>
    obtain ⟨rfl, e2⟩ := List.append_inj' e rfl
    obtain rfl : x = (o, 0) := by simpa using e2
    unfold takO at h2
    rw [show o.kind = 4 from h4] at h2
    exact absurd h2 (by decide)
  | @blk _ s r' q o x' _ h2 =>
    obtain ⟨rfl, e2⟩ := List.append_inj' e rfl
    obtain rfl : x = (o, (r'.length : Int) + 2) := by simpa using e2
    have hs : s = [] := by
      apply List.length_eq_zero_iff.1
      simp at hl
      omega
    subst hs
    exact ⟨q, r' ++ [x'], rfl, h2.up⟩
theorem SI.step {o : Opr} {cs : List (Opr × Int)} {ms : List Int} (h : SI cs ms) (hne : takO o = true → ms ≠ []) (hf : fitO o = true) (h63 : ms.length ≤ 63) (h62 : o.kind = 1 → ms.length ≤ 62) : SI (trS o cs ms).1 (trS o cs ms).2 := by
  unfold trS
  by_cases ht : takO o = true
  · rw [if_pos ht]
    cases h with
    | base h => exact absurd rfl (hne ht)
    | @more n A s ms0 q hA hq hfq hn hs =>
      have e1 : (A ++ (q, 0) :: s).take A.length = A := by simp
      have e2 : (A ++ (q, 0) :: s).drop (A.length + 1) = s := by
        rw [show A ++ (q, (0 : Int)) :: s = (A ++ [(q, 0)]) ++ s by simp]
        exact List.drop_left' (by simp)
      simp only [List.getLastD_concat, List.dropLast_concat, Int.toNat_natCast]
      rw [e1, e2]
      by_cases hd : A.length + 1 = (A ++ (q, (0 : Int)) :: s).length ∨ trnO o = true
      · rw [if_pos hd]
        exact hA.lift hs.up (by omega)
      · rw [if_neg hd]
        have htn : trnO o = false := by
          cases e : trnO o
          · rfl
          · exact absurd (.inr e) hd
        have hn : s ≠ [] := fun e => hd (.inl (by rw [e]; simp))
        obtain ⟨r, x, rfl⟩ := snoc_of hn
        have eb : A ++ (q, (0 : Int)) :: (r ++ [x]) = (A ++ (q, 0) :: r) ++ [x] := by simp
        have el : (A ++ (q, (0 : Int)) :: (r ++ [x])).length = A.length + r.length + 2 := by simp; omega
        rw [el, eb, List.getLastD_concat, List.dropLast_concat]
        by_cases hg : (o.kind == 4 && gabO x (((A.length + r.length + 2 : Nat) : Int) - 1) (A.length : Int)) = true
        · rw [if_pos hg]
          rw [Bool.and_eq_true] at hg
          have g2 := hg.2
          unfold gabO at g2
          rw [Bool.and_eq_true, beq_iff_eq, beq_iff_eq] at g2
          obtain ⟨q', t, rfl, hw⟩ := hs.give g2.1 (by omega)
          have ed : drop3 (A ++ (q, (0 : Int)) :: (q', 0) :: t) A.length = A ++ t := by
            unfold drop3
            have f1 : (A ++ (q, (0 : Int)) :: (q', 0) :: t).drop (A.length + 1 + 1) = t := by
              rw [show A ++ (q, (0 : Int)) :: (q', 0) :: t = (A ++ [(q, 0), (q', 0)]) ++ t by simp]
              exact List.drop_left' (by simp)
            have f2 : (A ++ (q, (0 : Int)) :: (q', 0) :: t).take (A.length + 1) = A ++ [(q, 0)] := by
              rw [show A ++ (q, (0 : Int)) :: (q', 0) :: t = (A ++ [(q, 0)]) ++ ((q', 0) :: t) by simp]
              exact List.take_left' (by simp)
            rw [f1, f2]
            have f3 : (A ++ [(q, (0 : Int))] ++ t).take A.length = A := by rw [List.append_assoc]; exact List.take_left' rfl
            have f4 : (A ++ [(q, (0 : Int))] ++ t).drop (A.length + 1) = t := List.drop_left' (by simp)
            rw [f3, f4]
          rw [ed]
          exact hA.lift hw.up (by omega)
        · rw [if_neg hg, ← eb]
          have := hA.lift (WN.blk .nil hs hq ht htn (fun hh => hg (by
            rw [Bool.and_eq_true]
            refine ⟨by rw [hh.1]; rfl, ?_⟩
            unfold gabO
            rw [Bool.and_eq_true, beq_iff_eq, beq_iff_eq]
            exact ⟨hh.2.1, by have := hh.2.2; omega⟩)) hfq hf) (by omega)
          rw [show ((A.length + r.length + 2 : Nat) : Int) - (A.length : Int) = (r.length : Int) + 2 by omega]
          rw [List.nil_append, ← List.append_assoc] at this
          exact this
  · rw [if_neg ht]
    by_cases h1 : o.kind = 1
    · rw [if_pos h1]
      exact .more (h := 63 - (ms.length + 1)) h h1 hf (by have := h62 h1; omega) .nil
    · rw [if_neg h1]
      exact h.lift (n := 63 - ms.length) (WN.other .nil h1 (by simpa using ht) hf) (by omega)
end Go.Proofs.YtienedhaogjahaaGreatDoor
namespace Go.Proofs.YtienedhaogjahaaGreatDoor

def stM (d : Int) (o : Opr) : Int := if o.kind = 1 then d + 1 else if takO o then d - 1 else d
def mkL (l : List Opr) (d : Int) : Int := l.foldl stM d
theorem mkL_append (a b : List Opr) (d : Int) : mkL (a ++ b) d = mkL b (mkL a d) := List.foldl_append
theorem mkN_L (l : List Opr) : ∀ k, k ≤ l.length → mkN l k = mkL (l.take k) 0
  | 0, _ => rfl
  | k + 1, hk => by
    rw [take_more l opr0 k (by omega), mkL_append, ← mkN_L l k (by omega)]
    rfl
def allOk : List Opr → Int → Prop
  | [], _ => True
  | o :: t, d => badO o d = 0 ∧ allOk t (stM d o)
theorem allOk_append : ∀ (a b : List Opr) (d : Int), allOk a d → allOk b (mkL a d) → allOk (a ++ b) d
  | [], _, _, _, h => h
  | _ :: t, b, _, h1, h => ⟨h1.1, allOk_append t b _ h1.2 h⟩
theorem bad_fit {o : Opr} {d : Int} (hf : fitO o = true) (h1 : takO o = true → d ≠ 0) (h2 : o.kind = 1 → d ≠ 63) : badO o d = 0 := by
  unfold badO
  rw [if_neg (by rintro (h | h); rw [hf] at h; cases h; exact h1 h.1 h.2), if_neg (fun h => h2 h.1 h.2)]
theorem WN.ok {n : Nat} {s : List (Opr × Int)} (h : WN n s) : ∀ d : Int, 0 ≤ d → d + n ≤ 63 → allOk (s.map Prod.fst) d ∧ mkL (s.map Prod.fst) d = d := by
  induction h with
  | nil => exact fun d _ _ => ⟨trivial, rfl⟩
  | @other n s o _ h1 h2 h3 ih =>
    intro d h0 hd
    obtain ⟨g1, g2⟩ := ih d h0 hd
    rw [List.map_append, mkL_append, g2]
    refine ⟨allOk_append _ _ _ g1 ?_, ?_⟩
    · rw [g2]
      exact ⟨bad_fit h3 (fun h => by rw [h2] at h; cases h) (fun h => absurd h h1), trivial⟩
    · show stM d o = d
      unfold stM
      rw [if_neg h1, h2]
      rfl
  | @blk n s r q o x _ _ h3 h4 h5 h6 h7 h8 ih1 ih2 =>
    intro d h0 hd
    obtain ⟨g1, g2⟩ := ih1 d h0 hd
    obtain ⟨k1, k2⟩ := ih2 (d + 1) (by omega) (by omega)
    have eq : stM d q = d + 1 := by unfold stM; rw [if_pos h3]
    have ho1 : o.kind ≠ 1 := fun e => by rw [mark_not_takes e] at h4; cases h4
    have eo : stM (d + 1) o = d := by unfold stM; rw [if_neg ho1, if_pos h4]; omega
    have e2 : (s ++ ((q, 0) :: (r ++ [x])) ++ [(o, (r.length : Int) + 2)]).map Prod.fst = s.map Prod.fst ++ ([q] ++ ((r ++ [x]).map Prod.fst ++ [o])) := by simp
    have m1 : mkL [q] d = d + 1 := eq
    have m2 : mkL [o] (d + 1) = d := eo
    rw [e2]
    refine ⟨allOk_append _ _ _ g1 ?_, ?_⟩
    · rw [g2]
      refine allOk_append _ _ _ ⟨bad_fit h7 (fun h => by rw [mark_not_takes h3] at h; cases h) (fun _ => by omega), trivial⟩ ?_
      rw [m1]
      refine allOk_append _ _ _ k1 ?_
      rw [k2]
      exact ⟨bad_fit h8 (fun _ => by omega) (fun h => absurd h ho1), trivial⟩
    · rw [mkL_append, g2, mkL_append, m1, mkL_append, k2, m2]
end Go.Proofs.YtienedhaogjahaaGreatDoor
namespace Go.Proofs.YtienedhaogjahaaGreatDoor

theorem MeaR.zero {l : List Opr} {M E A : Int} (h : MeaR l M E A) (hE : E = 0) : A = 0 := by
  cases h with
  | long => cases hE
  | bad k E h hk hp he h0 => exact absurd hE h0
  | left => cases hE
  | fine => rfl
end Go.Proofs.YtienedhaogjahaaGreatDoor
namespace Go.Proofs.YtienedhaogjahaaGreatDoor

structure OkL (l : List Opr) : Prop where
  len : l.length ≤ 8192
  ok : ∀ i < l.length, badO (l.getD i opr0) (mkN l i) = 0
def addS (o : Opr) (st : List (Opr × Int) × List Int) : List (Opr × Int) × List Int :=
  if takO o = true then (st.1 ++ [(o, (st.1.length : Int) - st.2.getLastD 0)], st.2.dropLast)
  else if o.kind = 1 then (st.1 ++ [(o, 0)], st.2 ++ [(st.1.length : Int)]) else (st.1 ++ [(o, 0)], st.2)
def fulF (l : List Opr) : Nat → List (Opr × Int) × List Int
  | 0 => ([], [])
  | k + 1 => addS (l.getD k opr0) (fulF l k)
def mat (l : List Opr) (i : Nat) : Int := if takO (l.getD i opr0) = true then (fulF l i).2.getLastD 0 else -1
theorem SI.ok {cs : List (Opr × Int)} {ms : List Int} (h : SI cs ms) : allOk (cs.map Prod.fst) 0 ∧ mkL (cs.map Prod.fst) 0 = (ms.length : Int) := by
  induction h with
  | base h => exact h.ok 0 (by omega) (by omega)
  | @more n cs s ms q _ hq hf hn hs ih =>
    obtain ⟨i1, i2⟩ := ih
    have e : stM (ms.length : Int) q = (ms.length : Int) + 1 := by unfold stM; rw [if_pos hq]
    obtain ⟨w1, w2⟩ := hs.ok ((ms.length : Int) + 1) (by omega) (by omega)
    rw [List.map_append]
    refine ⟨allOk_append _ _ _ i1 ?_, ?_⟩
    · rw [i2]
      refine ⟨bad_fit hf (fun ht => by rw [mark_not_takes hq] at ht; cases ht) (fun _ => by omega), ?_⟩
      rw [e]; exact w1
    · rw [mkL_append, i2]
      show mkL (s.map Prod.fst) (stM _ q) = _
      rw [e, w2]
      simp
theorem allOk_of : ∀ (l : List Opr) (d : Int), (∀ i < l.length, badO (l.getD i opr0) (mkL (l.take i) d) = 0) → allOk l d
  | [], _, _ => trivial
  | o :: t, d, h => ⟨h 0 (by simp), allOk_of t _ fun i hi => by
    have := h (i + 1) (by simpa using hi)
    simpa [mkL] using this⟩
theorem OkL.all {l : List Opr} (h : OkL l) : allOk l 0 := allOk_of l 0 fun i hi => by rw [← mkN_L l i (by omega)]; exact h.ok i hi
end Go.Proofs.YtienedhaogjahaaGreatDoor
namespace Go.Proofs.YtienedhaogjahaaGreatDoor
open Go.RowKit

theorem ans_tm {k o t : Int} {b : Bool} (h : cAns (fun i => ckO i == k) o t b) : t = oTm k := by
  rcases h with ⟨hn, _, rfl, _⟩ | ⟨i, hi, hp, _, _, rfl, _⟩
  · by_cases h2 : 2 ≤ k ∧ k ≤ 7
    · have := hn (k - 2).toNat (by omega)
      have this' : (ckO (k - 2).toNat == k) = false := this
      have e : ckO (k - 2).toNat = k := by unfold ckO; omega
      rw [e, beq_self_eq_true] at this'
      cases this'
    · unfold oTm; rw [if_neg (by omega), if_neg (by omega)]
  · have e : ckO i = k := by simpa using hp
    unfold ckO at e
    unfold ckT oTm
    subst e
    by_cases h3 : i < 3
    · rw [if_pos h3, if_pos (by omega)]
    · rw [if_neg h3, if_neg (by omega), if_pos (by omega)]; omega
set_option maxRecDepth 20000 in
set_option maxHeartbeats 6400000 in
theorem cTermOf_any (o : Opr) (w : World) : Calls Tryz.prog 47 #[.agg (opC o)] w fun e w' => e = .returned (.agg (trC (tmO o))) ∧ Below w.heap.size w w' := by
  have hf1 := fieldC1
  have hst := store_fltD
  have HK : Hid (∀ wx, Calls Tryz.prog 48 #[.agg (opC o)] wx fun e w' => (∃ xo xb, e = .returned (.agg #[.int .i64 xo, .int .i64 (oTm o.kind), .bool xb])) ∧ Below wx.heap.size wx w') := fun wx => (kindOf_any o wx).mono fun e w' ⟨xo, xt, xb, he, ha, hb⟩ => ⟨⟨xo, xb, by rw [he, ans_tm ha]⟩, hb⟩
  unfold opC at HK
  unfold opC
  go_enter Tryz.func47, Tryz.ntmps47
  go_wp2_with fail
  have HT : Hid (((w.alloc (.cells #[.int .i64 o.kind, .float .f64 o.x, .float .f64 o.y, .int .i64 o.day, .int .i64 o.to, .int .i64 o.cur, .int .i64 o.count, .int .i64 o.n, .int .i64 o.months] 47)).alloc (.cells #[.int .i64 0, .int .i64 0, .int .i64 0, .float .f64 0, .float .f64 0, .int .i64 0, .int .i64 0, .int .i64 0, .int .i64 0, .int .i64 0, .int .i64 0] 50)).heap[w.heap.size]? = some (.cells #[.int .i64 o.kind, .float .f64 o.x, .float .f64 o.y, .int .i64 o.day, .int .i64 o.to, .int .i64 o.cur, .int .i64 o.count, .int .i64 o.n, .int .i64 o.months] 47)) := by
    show _ = _
    rw [al_at, sz_al, if_neg (by omega)]; exact heap_alloc_new _ _
  have HR : Hid (((w.alloc (.cells #[.int .i64 o.kind, .float .f64 o.x, .float .f64 o.y, .int .i64 o.day, .int .i64 o.to, .int .i64 o.cur, .int .i64 o.count, .int .i64 o.n, .int .i64 o.months] 47)).alloc (.cells #[.int .i64 0, .int .i64 0, .int .i64 0, .float .f64 0, .float .f64 0, .int .i64 0, .int .i64 0, .int .i64 0, .int .i64 0, .int .i64 0, .int .i64 0] 50)).heap[w.heap.size + 1]? = some (.cells #[.int .i64 0, .int .i64 0, .int .i64 0, .float .f64 0, .float .f64 0, .int .i64 0, .int .i64 0, .int .i64 0, .int .i64 0, .int .i64 0, .int .i64 0] 50)) := by
    show _ = _
    rw [al_at, sz_al, if_pos rfl]
  have HB : Hid (Below w.heap.size w ((w.alloc (.cells #[.int .i64 o.kind, .float .f64 o.x, .float .f64 o.y, .int .i64 o.day, .int .i64 o.to, .int .i64 o.cur, .int .i64 o.count, .int .i64 o.n, .int .i64 o.months] 47)).alloc (.cells #[.int .i64 0, .int .i64 0, .int .i64 0, .float .f64 0, .float .f64 0, .int .i64 0, .int .i64 0, .int .i64 0, .int .i64 0, .int .i64 0, .int .i64 0] 50))) := ((Below.refl _ _).alloc (Nat.le_refl _) _).alloc (by simp) _
  obtain ⟨w2, hw2⟩ : ∃ w2, ((w.alloc (.cells #[.int .i64 o.kind, .float .f64 o.x, .float .f64 o.y, .int .i64 o.day, .int .i64 o.to, .int .i64 o.cur, .int .i64 o.count, .int .i64 o.n, .int .i64 o.months] 47)).alloc (.cells #[.int .i64 0, .int .i64 0, .int .i64 0, .float .f64 0, .float .f64 0, .int .i64 0, .int .i64 0, .int .i64 0, .int .i64 0, .int .i64 0, .int .i64 0] 50)) = w2 := ⟨_, rfl⟩
  rw [hw2] at HT HR HB ⊢
  clear hw2
  obtain ⟨R, hR⟩ : ∃ R, w.heap.size + 1 = R := ⟨_, rfl⟩
  obtain ⟨T, hT⟩ : ∃ T, w.heap.size = T := ⟨_, rfl⟩
  have hTR : T ≠ R := by omega
  have hRle : w.heap.size ≤ R := by omega
  rw [hR] at HR ⊢
  rw [hT] at HT ⊢
  clear hR hT
  have HKa := hidD ((HK.out (w2.drewN 1)).mono fun e w' hh => (⟨hh.1, ⟨hh.2.os, hh.2.tape, hh.2.output, hh.2.size, hh.2.block⟩⟩ : _ ∧ Below w2.heap.size w2 w'))
  have c0 := (opx_cells HT.out 0 rfl).1
  have c1 := (opx_cells HT.out 1 rfl).1
  have c2 := (opx_cells HT.out 2 rfl).1
  have c3 := (opx_cells HT.out 3 rfl).1
  have c4 := (opx_cells HT.out 4 rfl).1
  have c5 := (opx_cells HT.out 5 rfl).1
  have c6 := (opx_cells HT.out 6 rfl).1
  have c7 := (opx_cells HT.out 7 rfl).1
  have c8 := (opx_cells HT.out 8 rfl).1
  go_region_held3 (fun x => x.cell? ⟨T, 0, none⟩ = some (.int .i64 o.kind) ∧ x.cell? ⟨T, 1, none⟩ = some (.float .f64 o.x) ∧ x.cell? ⟨T, 2, none⟩ = some (.float .f64 o.y) ∧ x.cell? ⟨T, 3, none⟩ = some (.int .i64 o.day) ∧ x.cell? ⟨T, 4, none⟩ = some (.int .i64 o.to) ∧ x.cell? ⟨T, 5, none⟩ = some (.int .i64 o.cur) ∧ x.cell? ⟨T, 6, none⟩ = some (.int .i64 o.count) ∧ x.cell? ⟨T, 7, none⟩ = some (.int .i64 o.n) ∧ x.cell? ⟨T, 8, none⟩ = some (.int .i64 o.months)) (first | go_keep | (with_reducible exact ⟨k0, k1, k2, k3, k4, k5, k6, k7, k8⟩) | (simp [go_sem, *])) ((go_at_call 48; refine HKa.out.mono ?_; rintro e w3 ⟨⟨xo, xb, rfl⟩, hb3⟩; have HT3 := hidD ((hb3.block _ (lt_of_blk HT.out)).trans HT.out); have HR3 := hidD ((hb3.block _ (lt_of_blk HR.out)).trans HR.out); have HB3 := hidD (HB.out.trans (hb3.mono HB.out.size)); have k0 := (opx_cells HT3.out 0 rfl).1; have k1 := (opx_cells HT3.out 1 rfl).1; have k2 := (opx_cells HT3.out 2 rfl).1; have k3 := (opx_cells HT3.out 3 rfl).1; have k4 := (opx_cells HT3.out 4 rfl).1; have k5 := (opx_cells HT3.out 5 rfl).1; have k6 := (opx_cells HT3.out 6 rfl).1; have k7 := (opx_cells HT3.out 7 rfl).1; have k8 := (opx_cells HT3.out 8 rfl).1; have r0 := (opx_cells HR3.out 0 rfl).1; have y0 := (opx_cells HR3.out 0 rfl).2; have r1 := (opx_cells HR3.out 1 rfl).1; have y1 := (opx_cells HR3.out 1 rfl).2; have r2 := (opx_cells HR3.out 2 rfl).1; have y2 := (opx_cells HR3.out 2 rfl).2; have r3 := (opx_cells HR3.out 3 rfl).1; have y3 := (opx_cells HR3.out 3 rfl).2; have r4 := (opx_cells HR3.out 4 rfl).1; have y4 := (opx_cells HR3.out 4 rfl).2; have r5 := (opx_cells HR3.out 5 rfl).1; have y5 := (opx_cells HR3.out 5 rfl).2; have r6 := (opx_cells HR3.out 6 rfl).1; have y6 := (opx_cells HR3.out 6 rfl).2; have r7 := (opx_cells HR3.out 7 rfl).1; have y7 := (opx_cells HR3.out 7 rfl).2; have r8 := (opx_cells HR3.out 8 rfl).1; have y8 := (opx_cells HR3.out 8 rfl).2; have r9 := (opx_cells HR3.out 9 rfl).1; have y9 := (opx_cells HR3.out 9 rfl).2; have r10 := (opx_cells HR3.out 10 rfl).1; have y10 := (opx_cells HR3.out 10 rfl).2; clear hb3))
  obtain ⟨v0, hv0⟩ : ∃ v, World.setCell w3 ⟨R, 0, none⟩ (.int .i64 (oTm o.kind)) = v := ⟨_, rfl⟩
  have g0 : (World.heap v0)[R]? = some (.cells #[.int .i64 (oTm o.kind), .int .i64 0, .int .i64 0, .float .f64 0, .float .f64 0, .int .i64 0, .int .i64 0, .int .i64 0, .int .i64 0, .int .i64 0, .int .i64 0] 50) := by rw [← hv0]; exact (heap_setCell_same _ R 0 _ _ _ HR3.out).trans rfl
  have B0 : Below w.heap.size w v0 := by rw [← hv0]; exact Below.setCell HB3.out (p := ⟨R, 0, none⟩) hRle _
  rw [hv0]
  obtain ⟨v1, hv1⟩ : ∃ v, World.setCell v0 ⟨R, 1, none⟩ (.int .i64 0) = v := ⟨_, rfl⟩
  have g1 : (World.heap v1)[R]? = some (.cells #[.int .i64 (oTm o.kind), .int .i64 0, .int .i64 0, .float .f64 0, .float .f64 0, .int .i64 0, .int .i64 0, .int .i64 0, .int .i64 0, .int .i64 0, .int .i64 0] 50) := by rw [← hv1]; exact (heap_setCell_same _ R 1 _ _ _ g0).trans rfl
  have B1 : Below w.heap.size w v1 := by rw [← hv1]; exact Below.setCell B0 (p := ⟨R, 1, none⟩) hRle _
  rw [hv1]
  obtain ⟨v2, hv2⟩ : ∃ v, World.setCell v1 ⟨R, 2, none⟩ (.int .i64 0) = v := ⟨_, rfl⟩
  have g2 : (World.heap v2)[R]? = some (.cells #[.int .i64 (oTm o.kind), .int .i64 0, .int .i64 0, .float .f64 0, .float .f64 0, .int .i64 0, .int .i64 0, .int .i64 0, .int .i64 0, .int .i64 0, .int .i64 0] 50) := by rw [← hv2]; exact (heap_setCell_same _ R 2 _ _ _ g1).trans rfl
  have B2 : Below w.heap.size w v2 := by rw [← hv2]; exact Below.setCell B1 (p := ⟨R, 2, none⟩) hRle _
  rw [hv2]
  obtain ⟨v3, hv3⟩ : ∃ v, World.setCell v2 ⟨R, 3, none⟩ (.float .f64 o.x) = v := ⟨_, rfl⟩
  have g3 : (World.heap v3)[R]? = some (.cells #[.int .i64 (oTm o.kind), .int .i64 0, .int .i64 0, .float .f64 o.x, .float .f64 0, .int .i64 0, .int .i64 0, .int .i64 0, .int .i64 0, .int .i64 0, .int .i64 0] 50) := by rw [← hv3]; exact (heap_setCell_same _ R 3 _ _ _ g2).trans rfl
  have B3 : Below w.heap.size w v3 := by rw [← hv3]; exact Below.setCell B2 (p := ⟨R, 3, none⟩) hRle _
  rw [hv3]
  obtain ⟨v4, hv4⟩ : ∃ v, World.setCell v3 ⟨R, 4, none⟩ (.float .f64 o.y) = v := ⟨_, rfl⟩
  have g4 : (World.heap v4)[R]? = some (.cells #[.int .i64 (oTm o.kind), .int .i64 0, .int .i64 0, .float .f64 o.x, .float .f64 o.y, .int .i64 0, .int .i64 0, .int .i64 0, .int .i64 0, .int .i64 0, .int .i64 0] 50) := by rw [← hv4]; exact (heap_setCell_same _ R 4 _ _ _ g3).trans rfl
  have B4 : Below w.heap.size w v4 := by rw [← hv4]; exact Below.setCell B3 (p := ⟨R, 4, none⟩) hRle _
  rw [hv4]
  obtain ⟨v5, hv5⟩ : ∃ v, World.setCell v4 ⟨R, 5, none⟩ (.int .i64 o.day) = v := ⟨_, rfl⟩
  have g5 : (World.heap v5)[R]? = some (.cells #[.int .i64 (oTm o.kind), .int .i64 0, .int .i64 0, .float .f64 o.x, .float .f64 o.y, .int .i64 o.day, .int .i64 0, .int .i64 0, .int .i64 0, .int .i64 0, .int .i64 0] 50) := by rw [← hv5]; exact (heap_setCell_same _ R 5 _ _ _ g4).trans rfl
  have B5 : Below w.heap.size w v5 := by rw [← hv5]; exact Below.setCell B4 (p := ⟨R, 5, none⟩) hRle _
  rw [hv5]
  obtain ⟨v6, hv6⟩ : ∃ v, World.setCell v5 ⟨R, 6, none⟩ (.int .i64 o.to) = v := ⟨_, rfl⟩
  have g6 : (World.heap v6)[R]? = some (.cells #[.int .i64 (oTm o.kind), .int .i64 0, .int .i64 0, .float .f64 o.x, .float .f64 o.y, .int .i64 o.day, .int .i64 o.to, .int .i64 0, .int .i64 0, .int .i64 0, .int .i64 0] 50) := by rw [← hv6]; exact (heap_setCell_same _ R 6 _ _ _ g5).trans rfl
  have B6 : Below w.heap.size w v6 := by rw [← hv6]; exact Below.setCell B5 (p := ⟨R, 6, none⟩) hRle _
  rw [hv6]
  obtain ⟨v7, hv7⟩ : ∃ v, World.setCell v6 ⟨R, 7, none⟩ (.int .i64 o.cur) = v := ⟨_, rfl⟩
  have g7 : (World.heap v7)[R]? = some (.cells #[.int .i64 (oTm o.kind), .int .i64 0, .int .i64 0, .float .f64 o.x, .float .f64 o.y, .int .i64 o.day, .int .i64 o.to, .int .i64 o.cur, .int .i64 0, .int .i64 0, .int .i64 0] 50) := by rw [← hv7]; exact (heap_setCell_same _ R 7 _ _ _ g6).trans rfl
  have B7 : Below w.heap.size w v7 := by rw [← hv7]; exact Below.setCell B6 (p := ⟨R, 7, none⟩) hRle _
  rw [hv7]
  obtain ⟨v8, hv8⟩ : ∃ v, World.setCell v7 ⟨R, 8, none⟩ (.int .i64 o.count) = v := ⟨_, rfl⟩
  have g8 : (World.heap v8)[R]? = some (.cells #[.int .i64 (oTm o.kind), .int .i64 0, .int .i64 0, .float .f64 o.x, .float .f64 o.y, .int .i64 o.day, .int .i64 o.to, .int .i64 o.cur, .int .i64 o.count, .int .i64 0, .int .i64 0] 50) := by rw [← hv8]; exact (heap_setCell_same _ R 8 _ _ _ g7).trans rfl
  have B8 : Below w.heap.size w v8 := by rw [← hv8]; exact Below.setCell B7 (p := ⟨R, 8, none⟩) hRle _
  rw [hv8]
  obtain ⟨v9, hv9⟩ : ∃ v, World.setCell v8 ⟨R, 9, none⟩ (.int .i64 o.n) = v := ⟨_, rfl⟩
  have g9 : (World.heap v9)[R]? = some (.cells #[.int .i64 (oTm o.kind), .int .i64 0, .int .i64 0, .float .f64 o.x, .float .f64 o.y, .int .i64 o.day, .int .i64 o.to, .int .i64 o.cur, .int .i64 o.count, .int .i64 o.n, .int .i64 0] 50) := by rw [← hv9]; exact (heap_setCell_same _ R 9 _ _ _ g8).trans rfl
  have B9 : Below w.heap.size w v9 := by rw [← hv9]; exact Below.setCell B8 (p := ⟨R, 9, none⟩) hRle _
  rw [hv9]
  obtain ⟨v10, hv10⟩ : ∃ v, World.setCell v9 ⟨R, 10, none⟩ (.int .i64 o.months) = v := ⟨_, rfl⟩
  have g10 : (World.heap v10)[R]? = some (.cells #[.int .i64 (oTm o.kind), .int .i64 0, .int .i64 0, .float .f64 o.x, .float .f64 o.y, .int .i64 o.day, .int .i64 o.to, .int .i64 o.cur, .int .i64 o.count, .int .i64 o.n, .int .i64 o.months] 50) := by rw [← hv10]; exact (heap_setCell_same _ R 10 _ _ _ g9).trans rfl
  have B10 : Below w.heap.size w v10 := by rw [← hv10]; exact Below.setCell B9 (p := ⟨R, 10, none⟩) hRle _
  rw [hv10]
  have HE := hidD (And.intro g10 B10)
  have z0 := (opx_cells g10 0 rfl).1
  have z1 := (opx_cells g10 1 rfl).1
  have z2 := (opx_cells g10 2 rfl).1
  have z3 := (opx_cells g10 3 rfl).1
  have z4 := (opx_cells g10 4 rfl).1
  have z5 := (opx_cells g10 5 rfl).1
  have z6 := (opx_cells g10 6 rfl).1
  have z7 := (opx_cells g10 7 rfl).1
  have z8 := (opx_cells g10 8 rfl).1
  have z9 := (opx_cells g10 9 rfl).1
  have z10 := (opx_cells g10 10 rfl).1
  clear hv0 g0 B0 hv1 g1 B1 hv2 g2 B2 hv3 g3 B3 hv4 g4 B4 hv5 g5 B5 hv6 g6 B6 hv7 g7 B7 hv8 g8 B8 hv9 g9 B9 hv10 g10 B10 k0 c0 k1 c1 k2 c2 k3 c3 k4 c4 k5 c5 k6 c6 k7 c7 k8 c8 r0 y0 r1 y1 r2 y2 r3 y3 r4 y4 r5 y5 r6 y6 r7 y7 r8 y8 r9 y9 r10 y10 HT3 HR3 HB3
  go_wp2_with fail
  exact bodyPost_ret (v := .agg (trC (tmO o))) (by simp [results, Tryz.results47, go_sem, trC, tmO, *]) rfl ⟨rfl, HE.out.2⟩
def bldS (o : Opr) (s : List Trm × List Int) : List Trm × List Int :=
  if o.kind = 1 then (s.1, s.2 ++ [-1])
  else if takO o = true then
    (bsT (s.2.dropLast.getLastD (-1)) ((whT (s.2.getLastD (-1)) s.1).length : Int) (whT (s.2.getLastD (-1)) s.1 ++ [{ tmO o with a := whI (s.2.getLastD (-1)) s.1 }]),
      s.2.dropLast.dropLast ++ [bsI (s.2.dropLast.getLastD (-1)) ((whT (s.2.getLastD (-1)) s.1).length : Int) (whT (s.2.getLastD (-1)) s.1 ++ [{ tmO o with a := whI (s.2.getLastD (-1)) s.1 }])])
  else (bsT (s.2.getLastD (-1)) (s.1.length : Int) (s.1 ++ [tmO o]), s.2.dropLast ++ [bsI (s.2.getLastD (-1)) (s.1.length : Int) (s.1 ++ [tmO o])])
def bldF (l : List Opr) : Nat → List Trm × List Int
  | 0 => ([], [-1])
  | k + 1 => bldS (l.getD k opr0) (bldF l k)
theorem whT_len (x : Int) (ts : List Trm) : (whT x ts).length ≤ ts.length + 1 := by unfold whT; split <;> simp
theorem bsT_len (x p : Int) (ts : List Trm) : (bsT x p ts).length ≤ ts.length + 1 := by unfold bsT; split <;> simp
theorem bldF_len {l : List Opr} (h : OkL l) : ∀ k, k ≤ l.length → ((bldF l k).2.length : Int) = mkN l k + 1 ∧ (bldF l k).1.length ≤ 3 * k
  | 0, _ => ⟨rfl, Nat.le_refl _⟩
  | k + 1, hk => by
    obtain ⟨h1, h2⟩ := bldF_len h k (by omega)
    have hb := h.ok k (by omega)
    have m0 := (mk_range l k (fun i hi => h.ok i (by omega))).1
    have e : mkN l (k + 1) = if (l.getD k opr0).kind = 1 then mkN l k + 1 else if takO (l.getD k opr0) then mkN l k - 1 else mkN l k := rfl
    rw [e]
    show ((bldS (l.getD k opr0) (bldF l k)).2.length : Int) = _ ∧ (bldS (l.getD k opr0) (bldF l k)).1.length ≤ _
    unfold bldS
    by_cases hk1 : (l.getD k opr0).kind = 1
    · rw [if_pos hk1, if_pos hk1]
      refine ⟨by rw [List.length_append, List.length_singleton]; omega, by show (bldF l k).1.length ≤ _; omega⟩
    · rw [if_neg hk1, if_neg hk1]
      by_cases ht : takO (l.getD k opr0) = true
      · have hm : mkN l k ≠ 0 := fun e => by rw [e] at hb; exact absurd hb (bad_take ht)
        rw [if_pos ht, if_pos ht]
        refine ⟨by rw [List.length_append, List.length_singleton, List.length_dropLast, List.length_dropLast]; omega, ?_⟩
        have a1 := whT_len ((bldF l k).2.getLastD (-1)) (bldF l k).1
        refine Nat.le_trans (bsT_len _ _ _) ?_
        rw [List.length_append, List.length_singleton]; omega
      · rw [if_neg ht, if_neg ht]
        refine ⟨by rw [List.length_append, List.length_singleton, List.length_dropLast]; omega, ?_⟩
        refine Nat.le_trans (bsT_len _ _ _) ?_
        rw [List.length_append, List.length_singleton]; omega
set_option maxRecDepth 20000 in
set_option maxHeartbeats 25600000 in
theorem rebuilt_any (l : List Opr) (N : Nat) (p : Option Addr) (b0 off c : Nat) (w : World) (hs : OSrc w p b0 off l) (hN : l.length = N) (hok : OkL l) (hz : mkN l N = 0) :
    Calls Tryz.prog 26 #[.slice p N c] w fun e w' => (∃ v, e = .returned v ∧ w'.ownsRow w.heap.size 50 11 v (whT ((bldF l N).2.getLastD (-1)) (bldF l N).1).length (rowV trC (whT ((bldF l N).2.getLastD (-1)) (bldF l N).1))) ∧ Below w.heap.size w w' := by
  have HS := hidD (And.intro hs (And.intro hN (And.intro hok hz)))
  have hN2 : N ≤ 8192 := by have := hok.len; omega
  have hst := store_fltD
  have HI0 : Hid (BlM w.heap.size (w.heap.size + 1) (.slice none 0 0) (.slice (some ⟨w.heap.size, 0, none⟩) 1 1) (bldF l 0).1 (bldF l 0).2 ((w.alloc (.cells #[.int .i64 (-1)] 3)).alloc (.cells #[.slice none 0 0, .slice (some ⟨w.heap.size, 0, none⟩) 1 1] 108)) ∧ Below w.heap.size w ((w.alloc (.cells #[.int .i64 (-1)] 3)).alloc (.cells #[.slice none 0 0, .slice (some ⟨w.heap.size, 0, none⟩) 1 1] 108))) := by
    refine ⟨⟨?_, orow_nil _ _ _ _, ?_⟩, ((Below.refl _ _).alloc (Nat.le_refl _) _).alloc (by simp) _⟩
    · rw [al_at, sz_al, if_pos rfl]
    · refine ⟨rfl, .inr ⟨w.heap.size, 1, #[.int .i64 (-1)], rfl, Nat.le_refl _, ?_, Nat.le_refl _, by decide, rfl, rfl⟩⟩
      rw [al_at, sz_al, if_neg (by omega)]; exact heap_alloc_new _ _
  clear hs hN hok hz
  go_enter Tryz.func26, Tryz.ntmps26
  go_wp2_with fail
  generalize hw3 : World.alloc _ _ = w3 at HI0 ⊢
  obtain ⟨b, hb⟩ : ∃ b, w.heap.size + 1 = b := ⟨_, rfl⟩
  have HBb : Hid (w.heap.size ≤ b) := by show _ ≤ _; omega
  rw [hb] at HI0 ⊢
  clear hw3 hb
  go_loopw [12] (fun i wr => ∃ (k : Nat) (tv pv : Value), k ≤ N ∧ i = .int .i64 k ∧ Hid (BlM w.heap.size b tv pv (bldF l k).1 (bldF l k).2 wr ∧ Below w.heap.size w wr)) (fun i _ => N - (intOf i).toNat)
  case atStart => exact ⟨0, _, _, Nat.zero_le _, rfl, HI0⟩
  case round =>
    clear HI0
    obtain ⟨k, tv, pv, hk, rfl, HI⟩ := hrel
    obtain ⟨hL1, hL2⟩ := bldF_len HS.out.2.2.1 k (by rw [HS.out.2.1]; exact hk)
    have m0 := mk_range l k (fun i hi => HS.out.2.2.1.ok i (by rw [HS.out.2.1]; omega))
    by_cases hlt : k < N
    · have hlt' : k < l.length := by rw [HS.out.2.1]; exact hlt
      have HQr := HS.out.1.below HI.out.2
      obtain rfl := HQr.at_ (by omega)
      have c0 := HQr.c0 k hlt'
      have c1 := HQr.c1 k hlt'
      have c2 := HQr.c2 k hlt'
      have c3 := HQr.c3 k hlt'
      have c4 := HQr.c4 k hlt'
      have c5 := HQr.c5 k hlt'
      have c6 := HQr.c6 k hlt'
      have c7 := HQr.c7 k hlt'
      have c8 := HQr.c8 k hlt'
      have hbl : b0 < wr.heap.size := HQr.lt (by omega)
      have hbn := Nat.ne_of_lt hbl
      have hbad := HS.out.2.2.1.ok k hlt'
      have HNx : Hid (bldF l (k + 1) = bldS (l.getD k opr0) (bldF l k)) := rfl
      have HTo := hidD (cTermOf_any (l.getD k opr0))
      have HKo := hidD (kindOf_any (l.getD k opr0))
      obtain ⟨o, ho⟩ : ∃ o, l.getD k opr0 = o := ⟨_, rfl⟩
      rw [ho] at c0 c1 c2 c3 c4 c5 c6 c7 c8 hbad HNx HTo HKo
      obtain ⟨ts, hts⟩ : ∃ ts, (bldF l k).1 = ts := ⟨_, rfl⟩
      obtain ⟨ps, hps⟩ : ∃ ps, (bldF l k).2 = ps := ⟨_, rfl⟩
      rw [hts] at hL2
      rw [hps] at hL1
      have HI1 : Hid (BlM w.heap.size b tv pv ts ps wr ∧ Below w.heap.size w wr) := by rw [← hts, ← hps]; exact HI.out
      have hbS : bldS o (bldF l k) = bldS o (ts, ps) := by rw [← hts, ← hps]
      rw [hbS] at HNx
      obtain ⟨ms, x, rfl⟩ := list_last ps (by omega)
      have hp1 : (ms ++ [x]).getLastD (-1) = x := by simp
      have hp2 : (ms ++ [x]).dropLast = ms := by simp
      rw [List.length_append, List.length_singleton] at hL1
      have htl : ts.length ≤ 24576 := by omega
      have hml : ms.length ≤ 64 := by omega
      have i1 : (k : Int) < (N : Int) := by omega
      have HB1 : Hid (w.heap.size ≤ wr.heap.size) := HI1.out.2.size
      have HW1 := hidD (al_bel wr (.cells #[.int .i64 o.kind, .float .f64 o.x, .float .f64 o.y, .int .i64 o.day, .int .i64 o.to, .int .i64 o.cur, .int .i64 o.count, .int .i64 o.n, .int .i64 o.months] 47))
      have HI2 : Hid (BlM w.heap.size b tv pv ts (ms ++ [x]) (wr.alloc (.cells #[.int .i64 o.kind, .float .f64 o.x, .float .f64 o.y, .int .i64 o.day, .int .i64 o.to, .int .i64 o.cur, .int .i64 o.count, .int .i64 o.n, .int .i64 o.months] 47)) ∧ Below w.heap.size w (wr.alloc (.cells #[.int .i64 o.kind, .float .f64 o.x, .float .f64 o.y, .int .i64 o.day, .int .i64 o.to, .int .i64 o.cur, .int .i64 o.count, .int .i64 o.n, .int .i64 o.months] 47))) := ⟨HI1.out.1.below HW1.out, HI1.out.2.trans (HW1.out.mono HB1.out)⟩
      have HO1 : Hid ((wr.alloc (.cells #[.int .i64 o.kind, .float .f64 o.x, .float .f64 o.y, .int .i64 o.day, .int .i64 o.to, .int .i64 o.cur, .int .i64 o.count, .int .i64 o.n, .int .i64 o.months] 47)).heap[wr.heap.size]? = some (.cells #[.int .i64 o.kind, .float .f64 o.x, .float .f64 o.y, .int .i64 o.day, .int .i64 o.to, .int .i64 o.cur, .int .i64 o.count, .int .i64 o.n, .int .i64 o.months] 47)) := heap_alloc_new _ _
      have hs1 : (wr.alloc (.cells #[.int .i64 o.kind, .float .f64 o.x, .float .f64 o.y, .int .i64 o.day, .int .i64 o.to, .int .i64 o.cur, .int .i64 o.count, .int .i64 o.n, .int .i64 o.months] 47)).heap.size = wr.heap.size + 1 := by simp
      have HS1 := hidD hs1
      unfold opC at HTo HKo
      clear HQr hlt' ho hts hps hbS HI hs1
      by_cases hk1 : o.kind = 1
      · have z : (o.kind == 1) = true := beq_iff_eq.2 hk1
        have HNy : Hid (bldF l (k + 1) = (ts, (ms ++ [x]) ++ [-1])) := by show _ = _; rw [HNx.out]; unfold bldS; exact if_pos hk1
        clear hk1 hbad HNx HTo HKo
        obtain ⟨gp, cp, hpv, _⟩ := int_last HI1.out.1.pieces
        subst hpv
        obtain ⟨r0, r1, rf⟩ := HI1.out.1.cells
        have y1 := rf 1
        have HWa := hidD (al_bel (wr.alloc (.cells #[.int .i64 o.kind, .float .f64 o.x, .float .f64 o.y, .int .i64 o.day, .int .i64 o.to, .int .i64 o.cur, .int .i64 o.count, .int .i64 o.n, .int .i64 o.months] 47)) (.cells #[.int .i64 (-1)] 3))
        have HIa := hidD (HI2.out.1.below HWa.out)
        have HBa : Hid (Below w.heap.size w ((wr.alloc (.cells #[.int .i64 o.kind, .float .f64 o.x, .float .f64 o.y, .int .i64 o.day, .int .i64 o.to, .int .i64 o.cur, .int .i64 o.count, .int .i64 o.n, .int .i64 o.months] 47)).alloc (.cells #[.int .i64 (-1)] 3))) := HI2.out.2.trans (HWa.out.mono HI2.out.2.size)
        have HCa : Hid (∀ j u, (rowV inC [-1])[j]? = some u → ((wr.alloc (.cells #[.int .i64 o.kind, .float .f64 o.x, .float .f64 o.y, .int .i64 o.day, .int .i64 o.to, .int .i64 o.cur, .int .i64 o.count, .int .i64 o.n, .int .i64 o.months] 47)).alloc (.cells #[.int .i64 (-1)] 3)).cell? ⟨wr.heap.size + 1, j, none⟩ = some u) := fun j u hj => by
          have := new_cells (wr.alloc (.cells #[.int .i64 o.kind, .float .f64 o.x, .float .f64 o.y, .int .i64 o.day, .int .i64 o.to, .int .i64 o.cur, .int .i64 o.count, .int .i64 o.n, .int .i64 o.months] 47)) (inC (-1)) 3 j u (by simpa [rowV] using hj)
          rw [HS1.out] at this; exact this
        obtain ⟨M, hM⟩ : ∃ M, ms.length = M := ⟨_, rfl⟩
        have HM := hidD hM
        rw [hM] at r1 hml
        have hbw1 : b < wr.heap.size := lt_of_blk HI1.out.1.box
        have hbn1 := Nat.ne_of_lt hbw1
        clear rf hM HI1 HW1 HO1 hL1 hL2 htl m0 r0
        go_wp2_with (at_builtin; refine wpList_append_g _ Tryz.underlying101 info_int rfl (by decide) rfl (.tmp 23) (.tmp 24) rfl w.heap.size (.slice (some ⟨gp, 0, none⟩) (M + 1) cp) (M + 1) (rowV inC (ms ++ [x])) rfl (by have := HIa.out.pieces; rw [List.length_append, List.length_singleton, HM.out] at this; exact this) HBa.out.size (wr.heap.size + 1) 1 1 (rowV inC [-1]) rfl rfl HCa.out (rowV_one inC_one _) (by omega) (by omega) ?_; intro v5 w5 ho5 hg5; have te := HIa.out.repiece HBb.out HBa.out.size (by rw [HM.out]; exact hg5) (pv' := v5) (ps' := (ms ++ [x]) ++ [-1]) (row_more (by rw [List.length_append, List.length_singleton, HM.out]; exact ho5) rfl); obtain ⟨p5, c5, g5, hv5, _, _, hp5, _⟩ := orow_src ho5; obtain rfl := hp5 (by omega); subst hv5; clear hp5; have HTE := hidD (And.intro te.2.1 (HBa.out.trans te.2.2)); have q5 := (opx_cells te.1 1 rfl).1; have y5 := (opx_cells te.1 1 rfl).2; clear ho5 hg5 te)
        go_roundw
        case rel => exact ⟨k + 1, _, _, by omega, by go_num, by rw [HNy.out]; exact HTE.out⟩
        case measure => simp [intOf]; omega
      · have z : (o.kind == 1) = false := beq_eq_false_iff_ne.2 hk1
        have HTk : Hid (∀ wx, Calls Tryz.prog 48 #[.agg #[.int .i64 o.kind, .float .f64 o.x, .float .f64 o.y, .int .i64 o.day, .int .i64 o.to, .int .i64 o.cur, .int .i64 o.count, .int .i64 o.n, .int .i64 o.months]] wx fun e w' => (∃ xo xt, e = .returned (.agg #[.int .i64 xo, .int .i64 xt, .bool (takO o)])) ∧ Below wx.heap.size wx w') := fun wx => (HKo.out wx).mono fun e w' ⟨xo, xt, xb, he, ha, hb⟩ => ⟨⟨xo, xt, by rw [he, ans_takes ha]; rfl⟩, hb⟩
        have hf2 := fieldC2
        unfold trC tmO at HTo
        dsimp only at HTo
        have HBn : Hid (takO o = true → ∃ ms' y, ms = ms' ++ [y]) := fun ht => by
          have hm : mkN l k ≠ 0 := fun e => by rw [e] at hbad; exact absurd hbad (bad_take ht)
          exact list_last ms (by omega)
        have HN1 : Hid (takO o = false → bldF l (k + 1) = (bsT x (ts.length : Int) (ts ++ [tmO o]), ms ++ [bsI x (ts.length : Int) (ts ++ [tmO o])])) := fun ht => by
          rw [HNx.out]; unfold bldS
          rw [if_neg hk1, if_neg (by rw [ht]; decide)]
          show (bsT ((ms ++ [x]).getLastD (-1)) _ _, (ms ++ [x]).dropLast ++ [bsI ((ms ++ [x]).getLastD (-1)) _ _]) = _
          rw [hp1, hp2]
        have HN2 : Hid (takO o = true → ∀ ms' y, ms = ms' ++ [y] → bldF l (k + 1) = (bsT y ((whT x ts).length : Int) (whT x ts ++ [{ tmO o with a := whI x ts }]), ms' ++ [bsI y ((whT x ts).length : Int) (whT x ts ++ [{ tmO o with a := whI x ts }])])) := fun ht ms' y hy => by
          rw [HNx.out]; unfold bldS
          rw [if_neg hk1, if_pos ht]
          show (bsT ((ms ++ [x]).dropLast.getLastD (-1)) ((whT ((ms ++ [x]).getLastD (-1)) ts).length : Int) (whT ((ms ++ [x]).getLastD (-1)) ts ++ [{ tmO o with a := whI ((ms ++ [x]).getLastD (-1)) ts }]), (ms ++ [x]).dropLast.dropLast ++ [bsI ((ms ++ [x]).dropLast.getLastD (-1)) ((whT ((ms ++ [x]).getLastD (-1)) ts).length : Int) (whT ((ms ++ [x]).getLastD (-1)) ts ++ [{ tmO o with a := whI ((ms ++ [x]).getLastD (-1)) ts }])]) = _
          rw [hp1, hp2, hy]
          simp
        clear hk1 hbad HNx HKo hp1 hp2 HI1 HW1 hL1 m0
        have HFx : Hid (htl = htl ∧ hml = hml) := ⟨rfl, rfl⟩
        go_wp2_with fail
        refine (HTo.out _).mono ?_
        rintro e w2 ⟨rfl, hb2⟩
        have HI3 := hidD (And.intro (HI2.out.1.below hb2) (HI2.out.2.trans (hb2.mono HI2.out.2.size)))
        have HO3 := hidD ((hb2.block _ (lt_of_blk HO1.out)).trans HO1.out)
        have HW3 := hidD (al_bel w2 (.cells #[.int .i64 (oTm o.kind), .int .i64 0, .int .i64 0, .float .f64 o.x, .float .f64 o.y, .int .i64 o.day, .int .i64 o.to, .int .i64 o.cur, .int .i64 o.count, .int .i64 o.n, .int .i64 o.months] 50))
        have HI4 := hidD (And.intro (HI3.out.1.below HW3.out) (HI3.out.2.trans (HW3.out.mono HI3.out.2.size)))
        have HO4 := hidD ((HW3.out.block _ (lt_of_blk HO3.out)).trans HO3.out)
        have HX4 : Hid ((w2.alloc (.cells #[.int .i64 (oTm o.kind), .int .i64 0, .int .i64 0, .float .f64 o.x, .float .f64 o.y, .int .i64 o.day, .int .i64 o.to, .int .i64 o.cur, .int .i64 o.count, .int .i64 o.n, .int .i64 o.months] 50)).heap[w2.heap.size]? = some (.cells #[.int .i64 (oTm o.kind), .int .i64 0, .int .i64 0, .float .f64 o.x, .float .f64 o.y, .int .i64 o.day, .int .i64 o.to, .int .i64 o.cur, .int .i64 o.count, .int .i64 o.n, .int .i64 o.months] 50)) := heap_alloc_new _ _
        have e0 := (opx_cells HO3.out 0 rfl).1
        have e1 := (opx_cells HO3.out 1 rfl).1
        have e2 := (opx_cells HO3.out 2 rfl).1
        have e3 := (opx_cells HO3.out 3 rfl).1
        have e4 := (opx_cells HO3.out 4 rfl).1
        have e5 := (opx_cells HO3.out 5 rfl).1
        have e6 := (opx_cells HO3.out 6 rfl).1
        have e7 := (opx_cells HO3.out 7 rfl).1
        have e8 := (opx_cells HO3.out 8 rfl).1
        have hrw : wr.heap.size < w2.heap.size := lt_of_blk HO3.out
        have hrn := Nat.ne_of_lt hrw
        clear hb2 c0 c1 c2 c3 c4 c5 c6 c7 c8 hbl hbn HI2 HO1
        go_wp2_with fail
        refine (HTk.out _).mono ?_
        rintro e w3 ⟨⟨xo, xt, rfl⟩, hb3⟩
        have HI5 := hidD (And.intro (HI4.out.1.below hb3) (HI4.out.2.trans (hb3.mono HI4.out.2.size)))
        have HX5 := hidD ((hb3.block _ (lt_of_blk HX4.out)).trans HX4.out)
        clear hb3 e0 e1 e2 e3 e4 e5 e6 e7 e8 HI4 HO3 HO4 HX4 HW3 hrw hrn
        obtain ⟨X, hX⟩ : ∃ X, w2.heap.size = X := ⟨_, rfl⟩
        have HXB : Hid (w.heap.size ≤ X) := by show _ ≤ _; rw [← hX]; exact HI3.out.2.size
        have HXb : Hid (X ≠ b) := fun e => by have := lt_of_blk HI3.out.1.box; omega
        have HXo : Hid (some X ≠ tv.ownBlock) := fun e => by have := (HI3.out.1.terms.lt X e.symm).2; omega
        rw [hX] at HX5 ⊢
        clear hX HI3
        cases ht : takO o
        · have HNy := hidD (HN1.out ht)
          have HAd := hidD (blAdd_any w.heap.size b tv pv ts (ms ++ [x]) (tmO o) w3 HI5.out.1 HBb.out (by omega))
          have HBs : Hid (∀ wx v, BlM w.heap.size b v pv (ts ++ [tmO o]) (ms ++ [x]) wx → Calls Tryz.prog 50 #[.pointer (some ⟨b, 0, none⟩), .int .i64 (ts.length : Int)] wx fun e w' => e = .returned (.tuple #[]) ∧ (∃ v v', BlM w.heap.size b v v' (bsT x (ts.length : Int) (ts ++ [tmO o])) (ms ++ [bsI x (ts.length : Int) (ts ++ [tmO o])]) w') ∧ Below w.heap.size wx w') := fun wx v t => blBeside_any w.heap.size b v pv _ ms x _ wx t HBb.out (by simp; omega) (by omega)
          unfold trC tmO at HAd
          dsimp only at HAd
          have d0 := (opx_cells HX5.out 0 rfl).1
          have d1 := (opx_cells HX5.out 1 rfl).1
          have d2 := (opx_cells HX5.out 2 rfl).1
          have d3 := (opx_cells HX5.out 3 rfl).1
          have d4 := (opx_cells HX5.out 4 rfl).1
          have d5 := (opx_cells HX5.out 5 rfl).1
          have d6 := (opx_cells HX5.out 6 rfl).1
          have d7 := (opx_cells HX5.out 7 rfl).1
          have d8 := (opx_cells HX5.out 8 rfl).1
          have d9 := (opx_cells HX5.out 9 rfl).1
          have d10 := (opx_cells HX5.out 10 rfl).1
          clear ht HN1 HN2 HBn
          go_wp2_with fail
          refine HAd.out.mono ?_
          rintro e w4 ⟨rfl, ⟨v4, h4, _⟩, hb4⟩
          have H4 := hidD (And.intro h4 (HI5.out.2.trans hb4))
          clear h4 hb4 d0 d1 d2 d3 d4 d5 d6 d7 d8 d9 d10
          go_wp2_with fail
          refine (HBs.out _ _ H4.out.1).mono ?_
          rintro e w5 ⟨rfl, ⟨v5, v5', h5⟩, hb5⟩
          have H5 := hidD (And.intro h5 (H4.out.2.trans hb5))
          clear h5 hb5
          go_wp2_with fail
          go_roundw
          case rel => exact ⟨k + 1, _, _, by omega, by go_num, by rw [HNy.out]; exact H5.out⟩
          case measure => simp [intOf]; omega
        · obtain ⟨ms', y, rfl⟩ := HBn.out ht
          have HNy := hidD (HN2.out ht ms' y rfl)
          have hwl := whT_len x ts
          have hml' : ms'.length ≤ 64 := by rw [List.length_append] at hml; omega
          have HWh := hidD (blWhole_any w.heap.size b tv pv ts (ms' ++ [y]) x w3 HI5.out.1 HBb.out (by omega) (by omega))
          have HAd : Hid (∀ wx v v', BlM w.heap.size b v v' (whT x ts) (ms' ++ [y]) wx → Calls Tryz.prog 51 #[.pointer (some ⟨b, 0, none⟩), .agg (trC { tmO o with a := whI x ts })] wx fun e w' => e = .returned (.int .i64 ((whT x ts).length : Int)) ∧ (∃ u, BlM w.heap.size b u v' (whT x ts ++ [{ tmO o with a := whI x ts }]) (ms' ++ [y]) w') ∧ Below w.heap.size wx w') := fun wx v v' t => (blAdd_any w.heap.size b v v' _ _ _ wx t HBb.out (by omega)).mono fun e w' h => ⟨h.1, h.2.1.imp fun _ h => h.1, h.2.2⟩
          have HBs : Hid (∀ wx v v', BlM w.heap.size b v v' (whT x ts ++ [{ tmO o with a := whI x ts }]) (ms' ++ [y]) wx → Calls Tryz.prog 50 #[.pointer (some ⟨b, 0, none⟩), .int .i64 ((whT x ts).length : Int)] wx fun e w' => e = .returned (.tuple #[]) ∧ (∃ v v', BlM w.heap.size b v v' (bsT y ((whT x ts).length : Int) (whT x ts ++ [{ tmO o with a := whI x ts }])) (ms' ++ [bsI y ((whT x ts).length : Int) (whT x ts ++ [{ tmO o with a := whI x ts }])]) w') ∧ Below w.heap.size wx w') := fun wx v v' t => blBeside_any w.heap.size b v v' _ ms' y _ wx t HBb.out (by rw [List.length_append, List.length_singleton]; omega) (by omega)
          unfold trC tmO at HAd
          dsimp only at HAd
          generalize whI x ts = A at *
          generalize hLw : (whT x ts).length = LW at *
          have d1 := (opx_cells HX5.out 1 rfl).1
          have f1 := (opx_cells HX5.out 1 rfl).2
          clear ht HN1 HN2 HBn
          go_wp2_with fail
          refine HWh.out.mono ?_
          rintro e w4 ⟨rfl, ⟨v4, v4', h4, hk4⟩, hb4⟩
          have HX6 : Hid (w4.heap[X]? = some (.cells #[.int .i64 (oTm o.kind), .int .i64 0, .int .i64 0, .float .f64 o.x, .float .f64 o.y, .int .i64 o.day, .int .i64 o.to, .int .i64 o.cur, .int .i64 o.count, .int .i64 o.n, .int .i64 o.months] 50)) := by
            show _ = _
            rw [hk4.keep X (lt_of_blk HX5.out) HXb.out HXo.out]; exact HX5.out
          have H4 := hidD (And.intro h4 (HI5.out.2.trans hb4))
          have hXB : w.heap.size ≤ X := HXB.out
          have hXv : ∀ g, v4.ownBlock = some g → g ≠ X := fun g hg e => by
            rcases hk4.lies with h | h
            · rw [hg, e] at h; exact HXo.out h
            · have := h g hg; have := lt_of_blk HX5.out; omega
          clear h4 hb4 hk4 d1 f1
          have d1 := (opx_cells HX6.out 1 rfl).1
          have f1 := (opx_cells HX6.out 1 rfl).2
          have HX7 : Hid ((w4.setCell ⟨X, 1, none⟩ (.int .i64 A)).heap[X]? = some (.cells #[.int .i64 (oTm o.kind), .int .i64 A, .int .i64 0, .float .f64 o.x, .float .f64 o.y, .int .i64 o.day, .int .i64 o.to, .int .i64 o.cur, .int .i64 o.count, .int .i64 o.n, .int .i64 o.months] 50)) := (heap_setCell_same w4 X 1 _ _ _ HX6.out).trans rfl
          have H7 : Hid (BlM w.heap.size b v4 v4' (whT x ts) (ms' ++ [y]) (w4.setCell ⟨X, 1, none⟩ (.int .i64 A)) ∧ Below w.heap.size w (w4.setCell ⟨X, 1, none⟩ (.int .i64 A))) := by
            have t4 := H4.out.1
            refine ⟨⟨(blkF_far _ _ _ _ HXb.out.symm).trans t4.box, orow_keep t4.terms fun g hg => blkF_far _ _ _ _ fun e => hXv g hg e, orow_keep t4.pieces fun g hg => blkF_far _ _ _ _ (orow_box t4.pieces HX6.out (by decide) g hg)⟩, H4.out.2.setCell (p := ⟨X, 1, none⟩) hXB _⟩
          obtain ⟨w7, hw7⟩ : ∃ w7, w4.setCell ⟨X, 1, none⟩ (.int .i64 A) = w7 := ⟨_, rfl⟩
          rw [hw7] at HX7 H7
          have x0 := (opx_cells HX7.out 0 rfl).1
          have x1 := (opx_cells HX7.out 1 rfl).1
          have x2 := (opx_cells HX7.out 2 rfl).1
          have x3 := (opx_cells HX7.out 3 rfl).1
          have x4 := (opx_cells HX7.out 4 rfl).1
          have x5 := (opx_cells HX7.out 5 rfl).1
          have x6 := (opx_cells HX7.out 6 rfl).1
          have x7 := (opx_cells HX7.out 7 rfl).1
          have x8 := (opx_cells HX7.out 8 rfl).1
          have x9 := (opx_cells HX7.out 9 rfl).1
          have x10 := (opx_cells HX7.out 10 rfl).1
          go_wp2_with fail
          refine (HAd.out _ _ _ H7.out.1).mono ?_
          rintro e w8 ⟨rfl, ⟨v8, h8⟩, hb8⟩
          have H8 := hidD (And.intro h8 (H7.out.2.trans hb8))
          clear h8 hb8 x0 x1 x2 x3 x4 x5 x6 x7 x8 x9 x10
          go_wp2_with fail
          refine (HBs.out _ _ _ H8.out.1).mono ?_
          rintro e w9 ⟨rfl, ⟨v9, v9', h9⟩, hb9⟩
          have H9 := hidD (And.intro h9 (H8.out.2.trans hb9))
          clear h9 hb9
          go_wp2_with fail
          go_roundw
          case rel => exact ⟨k + 1, _, _, by omega, by go_num, by rw [HNy.out]; exact H9.out⟩
          case measure => simp [intOf]; omega
    · obtain rfl : k = N := by omega
      have i1 : ¬ (k : Int) < (k : Int) := by omega
      obtain ⟨ts, hts⟩ : ∃ ts, (bldF l k).1 = ts := ⟨_, rfl⟩
      obtain ⟨ps, hps⟩ : ∃ ps, (bldF l k).2 = ps := ⟨_, rfl⟩
      have hz := HS.out.2.2.2
      rw [hz, hps] at hL1
      rw [hts] at hL2
      obtain ⟨x, rfl⟩ : ∃ x, ps = [x] := by
        match ps, (show ps.length = 1 by omega) with
        | [x], _ => exact ⟨x, rfl⟩
      have HE : Hid ((bldF l k).2.getLastD (-1) = x ∧ (bldF l k).1 = ts) := by rw [hps, hts]; exact ⟨rfl, rfl⟩
      have HI1 : Hid (BlM w.heap.size b tv pv ts ([] ++ [x]) wr ∧ Below w.heap.size w wr) := by rw [← hts]; have := HI.out; rw [hps] at this; exact this
      have HWh := hidD (blWhole_any w.heap.size b tv pv ts [] x wr HI1.out.1 HBb.out (by omega) (by simp))
      have HB1 : Hid (Below w.heap.size w wr) := HI1.out.2
      clear hts hps hz HI HI1 hL1 hL2 m0
      go_wp2_with fail
      refine HWh.out.mono ?_
      rintro e w4 ⟨rfl, ⟨v4, v4', h4, _⟩, hb4⟩
      have H4 := hidD (And.intro h4 (HB1.out.trans hb4))
      clear h4 hb4
      obtain ⟨p4, c4, g4, hv4, _⟩ := orow_src H4.out.1.terms
      subst hv4
      have r0 := H4.out.1.cells.1
      go_wp2_with fail
      go_ret
      refine ⟨⟨_, rfl, ?_⟩, H4.out.2⟩
      rw [HE.out.1, HE.out.2]
      exact H4.out.1.terms
end Go.Proofs.YtienedhaogjahaaGreatDoor
namespace Go.Proofs.YtienedhaogjahaaGreatDoor
open Go.RowKit

theorem CodR.unique {ts : List Trm} {i K K' : Nat} {l l' : List Opr} (h : CodR ts i l K) (h' : CodR ts i l' K') : l = l' ∧ K = K' := by
  induction h generalizing l' K' with
  | zero i hi hk =>
    cases h' with
    | zero => exact ⟨rfl, rfl⟩
    | leaf _ _ h => omega
    | both _ _ _ _ _ _ _ _ h => omega
    | one _ _ _ _ _ h => omega
  | leaf i hi hk =>
    cases h' with
    | zero _ _ h => omega
    | leaf => exact ⟨rfl, rfl⟩
    | both _ _ _ _ _ _ _ _ h => omega
    | one _ _ _ _ _ h => omega
  | both i a b la lb ka kb hi hk ha hb h1 h2 _ _ iha ihb =>
    cases h' with
    | zero _ _ h => omega
    | leaf _ _ h => omega
    | both _ a' b' la' lb' ka' kb' _ _ ha' hb' _ _ ca' cb' =>
      obtain rfl : a = a' := by omega
      obtain rfl : b = b' := by omega
      obtain ⟨e1, e2⟩ := iha ca'
      obtain ⟨e3, e4⟩ := ihb cb'
      rw [e1, e2, e3, e4]; exact ⟨rfl, rfl⟩
    | one _ _ _ _ _ h => omega
  | one i a la ka hi hk ha h1 _ iha =>
    cases h' with
    | zero _ _ h => omega
    | leaf _ _ h => omega
    | both _ _ _ _ _ _ _ _ h => omega
    | one _ a' la' ka' _ _ ha' _ ca' =>
      obtain rfl : a = a' := by omega
      obtain ⟨e1, e2⟩ := iha ca'
      rw [e1, e2]; exact ⟨rfl, rfl⟩
theorem getT_app {ts us : List Trm} {i : Nat} (h : i < ts.length) : (ts ++ us).getD i trm0 = ts.getD i trm0 := by
  simp [List.getD, List.getElem?_append_left h]
theorem CodR.more {ts : List Trm} {i K : Nat} {l : List Opr} (h : CodR ts i l K) (us : List Trm) : CodR (ts ++ us) i l K := by
  have hl : ∀ {i}, i < ts.length → i < (ts ++ us).length := fun h => by rw [List.length_append]; omega
  induction h with
  | zero i hi hk => exact .zero i (hl hi) (by rw [getT_app hi]; exact hk)
  | leaf i hi hk =>
    have := CodR.leaf (ts := ts ++ us) i (hl hi) (by rw [getT_app hi]; exact hk)
    rw [getT_app hi] at this; exact this
  | both i a b la lb ka kb hi hk ha hb h1 h2 _ _ iha ihb => exact .both i a b la lb ka kb (hl hi) (by rw [getT_app hi]; exact hk) (by rw [getT_app hi]; exact ha) (by rw [getT_app hi]; exact hb) h1 h2 iha ihb
  | one i a la ka hi hk ha h1 _ iha =>
    have := CodR.one (ts := ts ++ us) i a la ka (hl hi) (by rw [getT_app hi]; exact hk) (by rw [getT_app hi]; exact ha) h1 iha
    rw [getT_app hi] at this; exact this
def Pc (ts : List Trm) (x : Int) (c : List Opr) : Prop := (x = -1 ∧ c = []) ∨ ∃ (p K : Nat), x = (p : Int) ∧ CodR ts p c K
theorem Pc.more {ts : List Trm} {x : Int} {c : List Opr} (h : Pc ts x c) (us : List Trm) : Pc (ts ++ us) x c := by
  rcases h with h | ⟨p, K, h1, h2⟩
  · exact .inl h
  · exact .inr ⟨p, K, h1, h2.more us⟩
inductive PcR (ts : List Trm) : List Int → List Opr → Prop
  | one (x : Int) (c : List Opr) : Pc ts x c → PcR ts [x] c
  | more (ps : List Int) (c : List Opr) (x : Int) (c' : List Opr) : PcR ts ps c → Pc ts x c' → PcR ts (ps ++ [x]) (c ++ markO :: c')
theorem PcR.ext {ts : List Trm} {ps : List Int} {c : List Opr} (h : PcR ts ps c) (us : List Trm) : PcR (ts ++ us) ps c := by
  induction h with
  | one x c h => exact .one x c (h.more us)
  | more ps c x c' _ h ih => exact .more ps c x c' ih (h.more us)
theorem PcR.last {ts : List Trm} {ms : List Int} {x : Int} {c : List Opr} (h : PcR ts (ms ++ [x]) c) : ∃ c0 c1, c = c0 ++ c1 ∧ Pc ts x c1 ∧ (∀ us y c2, Pc (ts ++ us) y c2 → PcR (ts ++ us) (ms ++ [y]) (c0 ++ c2)) ∧ (∀ ms' y, ms = ms' ++ [y] → ∃ d, c0 = d ++ [markO] ∧ PcR ts ms d) := by
  generalize hps : ms ++ [x] = ps at h
  cases h with
  | one x' c hp =>
    obtain ⟨rfl, rfl⟩ : ms = [] ∧ x = x' := by
      have hl := congrArg List.length hps
      simp at hl
      subst hl
      exact ⟨rfl, by simpa using hps⟩
    exact ⟨[], c, rfl, hp, fun us y c2 h => .one y c2 h, fun ms' y e => by simp at e⟩
  | more ps' c' x' c'' hr hp =>
    obtain ⟨rfl, rfl⟩ : ms = ps' ∧ x = x' := by simpa using List.append_inj' hps rfl
    refine ⟨c' ++ [markO], c'', by simp, hp, fun us y c2 h => ?_, fun ms' y e => ⟨c', rfl, hr⟩⟩
    have := PcR.more ms c' y c2 (hr.ext us) h
    simpa using this
theorem Pc.lt {ts : List Trm} {x : Int} {c : List Opr} (h : Pc ts x c) : ∀ p : Nat, x = (p : Int) → p < ts.length := by
  intro p hp
  rcases h with ⟨rfl, _⟩ | ⟨q, K, rfl, hc⟩
  · omega
  · have hq : q < ts.length := by cases hc <;> assumption
    omega
end Go.Proofs.YtienedhaogjahaaGreatDoor
namespace Go.Proofs.YtienedhaogjahaaGreatDoor
open Go.RowKit

def bkT (l : List Opr) : List Trm := whT ((bldF l l.length).2.getLastD (-1)) (bldF l l.length).1
theorem tru_wh {x : Int} {ts : List Trm} (h : ∀ t ∈ ts, TrU t) : ∀ t ∈ whT x ts, TrU t := by
  unfold whT
  split
  · intro t ht
    rcases List.mem_append.1 ht with ht | ht
    · exact h t ht
    · rw [List.mem_singleton] at ht
      subst ht
      exact ⟨by constructor <;> decide, by constructor <;> decide⟩
  · exact h
theorem tru_bs {x p : Int} {ts : List Trm} (h : ∀ t ∈ ts, TrU t) : ∀ t ∈ bsT x p ts, TrU t := by
  unfold bsT
  split
  · exact h
  · intro t ht
    rcases List.mem_append.1 ht with ht | ht
    · exact h t ht
    · rw [List.mem_singleton] at ht
      subst ht
      exact ⟨by show U64 ((0 : Nat) : Int); constructor <;> decide, by show U64 ((0 : Nat) : Int); constructor <;> decide⟩
theorem tru_add {t0 : Trm} {ts : List Trm} (h : ∀ t ∈ ts, TrU t) (h0 : TrU t0) : ∀ t ∈ ts ++ [t0], TrU t := fun t ht => by
  rcases List.mem_append.1 ht with ht | ht
  · exact h t ht
  · rw [List.mem_singleton] at ht
    subst ht; exact h0
theorem tru_bld {l : List Opr} (hu : ∀ i < l.length, OpU (l.getD i opr0)) : ∀ k, k ≤ l.length → ∀ t ∈ (bldF l k).1, TrU t
  | 0, _ => fun t ht => by cases ht
  | k + 1, hk => by
    have ih := tru_bld hu k (by omega)
    have ho := hu k (by omega)
    show ∀ t ∈ (bldS (l.getD k opr0) (bldF l k)).1, TrU t
    unfold bldS
    split
    · exact ih
    · split
      · exact tru_bs (tru_add (tru_wh ih) ⟨ho.x, ho.y⟩)
      · exact tru_bs (tru_add ih ⟨ho.x, ho.y⟩)
theorem bk_tru {l : List Opr} (hu : ∀ i < l.length, OpU (l.getD i opr0)) : ∀ i < (bkT l).length, TrU ((bkT l).getD i trm0) := fun i hi => by
  have e : (bkT l).getD i trm0 = (bkT l)[i] := by simp [List.getD, List.getElem?_eq_getElem hi]
  rw [e]
  exact tru_wh (tru_bld hu l.length (Nat.le_refl _)) _ (List.getElem_mem hi)
theorem mea_ok {l : List Opr} {M : Int} (hm : MeaR l M 0 0) : OkL l ∧ mkN l l.length = 0 := by
  cases hm with
  | bad _ _ _ _ _ _ h0 => exact absurd rfl h0
  | fine h hp hz =>
    have := (mk_range l l.length hp).1
    exact ⟨⟨h, hp⟩, by omega⟩
theorem bk_len {l : List Opr} (h : OkL l) : (bkT l).length ≤ 3 * l.length + 1 := by
  have := (bldF_len h l.length (Nat.le_refl _)).2
  have h2 := whT_len ((bldF l l.length).2.getLastD (-1)) (bldF l l.length).1
  unfold bkT
  omega
inductive BkR (B : Nat) (T : List Trm) (E : Int) (w' : World) : Ending → Prop
  | yes (v : Value) : E = 0 → w'.ownsRow B 50 11 v T.length (rowV trC T) → BkR B T E w' (.returned (.tuple #[v, .int .i64 0]))
  | no : E ≠ 0 → BkR B T E w' (.returned (.tuple #[.slice none 0 0, .int .i64 E]))
set_option maxRecDepth 20000 in
set_option maxHeartbeats 6400000 in
theorem cBack_ok {l : List Opr} {M : Int} (hm : MeaR l M 0 0) {D E A : Int} (ht : MesR (bkT l) D E A) (N : Nat) (p : Option Addr) (b0 off c : Nat) (w : World) (hs : OSrc w p b0 off l) (hN : l.length = N) (hu : ∀ i < l.length, OpU (l.getD i opr0)) :
    Calls Tryz.prog 12 #[.slice p N c] w fun e w' => BkR w.heap.size (bkT l) E w' e ∧ Below w.heap.size w w' := by
  obtain ⟨hok, hz⟩ := mea_ok hm
  have hN2 : N ≤ 8192 := by have := hok.len; omega
  have HC := hidD (cCheck_is hm N p b0 off c w hs hN (by rw [← hN]; exact hu) (by omega))
  have HR : Hid (∀ w1, Below w.heap.size w w1 → Calls Tryz.prog 26 #[.slice p N c] w1 fun e w' => (∃ q cq, e = .returned (.slice q (bkT l).length cq) ∧ w'.ownsRow w1.heap.size 50 11 (.slice q (bkT l).length cq) (bkT l).length (rowV trC (bkT l))) ∧ Below w1.heap.size w1 w') := fun w1 hb => by
    have := rebuilt_any l N p b0 off c w1 (hs.below hb) hN hok (by rw [← hN]; exact hz)
    rw [← hN] at this ⊢
    refine this.mono fun e w' ⟨⟨v, he, ho⟩, h⟩ => ⟨?_, h⟩
    obtain ⟨q, cq, g, hv, _⟩ := orow_src ho
    exact ⟨q, cq, by rw [he, hv]; rfl, by rw [hv] at ho; exact ho⟩
  have hlen := bk_len hok
  have HD : Hid (∀ w1 q g cq, TSrc w1 q g 0 (bkT l) → Calls Tryz.prog 21 #[.slice q (bkT l).length cq] w1 fun e w' => e = .returned (.tuple #[.int .i64 E, .int .i64 A]) ∧ Below w1.heap.size w1 w') := fun w1 q g cq h => dCheck_is ht (bkT l).length q g 0 cq w1 h rfl (bk_tru hu) (by omega)
  have HTs : Hid (∀ (w1 : World) (B : Nat) (q : Option Addr) (cq : Nat), w1.ownsRow B 50 11 (.slice q (bkT l).length cq) (bkT l).length (rowV trC (bkT l)) → ∃ g, TSrc w1 q g 0 (bkT l)) := fun w1 B q cq h => tsrc_of h rfl
  generalize bkT l = T at *
  obtain ⟨L, hL⟩ : ∃ L, T.length = L := ⟨_, rfl⟩
  rw [hL] at HR HD HTs hlen
  have HLn := hidD hL
  clear hm ht hs hN hu hok hz hL
  go_enter Tryz.func12, Tryz.ntmps12
  go_wp2_with fail
  refine HC.out.mono ?_
  rintro e w1 ⟨rfl, hb1⟩
  have H1 := hidD hb1
  clear hb1
  go_wp2_with fail
  refine (HR.out _ H1.out).mono ?_
  rintro e w2 ⟨⟨q, cq, rfl, ho⟩, hb2⟩
  have H2 := hidD (And.intro (orow_lower ho H1.out.size) (H1.out.trans (hb2.mono H1.out.size)))
  obtain ⟨g, hg⟩ := HTs.out _ _ _ _ ho
  have HG := hidD hg
  clear ho hb2 hg
  go_wp2_with fail
  refine (HD.out _ _ _ _ HG.out).mono ?_
  rintro e w3 ⟨rfl, hb3⟩
  have H3 := hidD (And.intro (orow_below H2.out.1 hb3) (H2.out.2.trans (hb3.mono H2.out.2.size)))
  clear hb3
  by_cases hE : E = 0
  · subst hE
    go_wp2_with fail
    go_ret2
    exact ⟨.yes _ rfl (by rw [HLn.out]; exact H3.out.1), H3.out.2⟩
  · have z : (E != 0) = true := bne_iff_ne.2 hE
    have HE := hidD hE
    clear hE
    go_wp2_with fail
    go_ret2
    exact ⟨.no HE.out, H3.out.2⟩
end Go.Proofs.YtienedhaogjahaaGreatDoor
