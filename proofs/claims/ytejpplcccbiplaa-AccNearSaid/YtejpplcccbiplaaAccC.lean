/- Contracts of package acc's words: long, inverse, turned, size, same. -/
import Derived.Test.YtejpplcccbiplaaAccB
namespace Go.Proofs.Ytejpplcccbiplaa
open Go.RowKit

/-- The words and more of the sign, up to n. -/
def longW (xs : List Nat) (n : Nat) : List Nat := xs ++ List.replicate (n - xs.length) (endW xs)
theorem longW_len (xs : List Nat) (n : Nat) : (longW xs n).length = max xs.length n := by simp [longW]; omega
theorem longW_none {xs : List Nat} {n : Nat} (h : n ≤ xs.length) : longW xs n = xs := by simp [longW, Nat.sub_eq_zero_of_le h]
theorem longW_next {xs : List Nat} {k : Nat} (h : xs.length ≤ k) : longW xs (k + 1) = longW xs k ++ [endW xs] := by
  unfold longW
  rw [show k + 1 - xs.length = (k - xs.length) + 1 by omega, List.replicate_succ', List.append_assoc]
theorem endW_long {xs : List Nat} {k : Nat} (h : xs.length ≤ k) : endW (longW xs k) = endW xs := by
  induction k with
  | zero => rw [longW_none (by omega)]
  | succ k ih =>
    by_cases hk : xs.length = k + 1
    · rw [longW_none (by omega)]
    · rw [longW_next (by omega), endW_snoc]
theorem Sg.long {xs : List Nat} {N : Int} (h : Sg xs N) (n : Nat) : Sg (longW xs n) N := by
  induction n with
  | zero => rw [longW_none (by omega)]; exact h
  | succ k ih =>
    by_cases hk : k + 1 ≤ xs.length
    · rw [longW_none hk]; exact h
    · have := ih.more
      rw [endW_long (by omega)] at this
      rw [longW_next (by omega)]; exact this

/-- slices.Grow of a row of words. -/
theorem grow_any (B : Nat) (v : Value) (xs : List Nat) (n : Nat) (w : World) (h : OwnW w B v xs) (hn : xs.length + n ≤ 1000000) (hB : B ≤ w.heap.size) :
    Calls Try.prog 71 #[v, .int .i64 n] w fun e w' => ∃ v', e = .returned v' ∧ OwnW w' B v' xs ∧ Wrote w w' (At v) ∧ New w v v' := by
  obtain ⟨i0, hi, hz0, hz1, hz2⟩ := info_parts infoU
  have grow : ∀ (p : Option Addr) (c : Nat) (cs : List Value), v = .slice p xs.length c → xs.length ≤ c → c < xs.length + n → cs.length = c → (p = none → c = 0) → (∀ a, p = some a → ∀ j u, cs[j]? = some u → w.cell? (a.add j) = some u) → cs.take xs.length = xs.map uV →
      Calls Try.prog 71 #[v, .int .i64 n] w fun e w' => ∃ v', e = .returned v' ∧ OwnW w' B v' xs ∧ Wrote w w' (At v) ∧ New w v v' := by
    intro p c cs hv h1 h2 h3 h4 h5 h6
    have hg := Any8.slices_Grow_grow Try.growL i0 (.int .u64 0) hi hz0 (by rw [hz1]; decide) p xs.length c n cs w h1 h2 (by rw [hz2]; omega) (by omega) (by rw [h3, hz1]; omega) h4 h5
    rw [hv]
    refine Calls.mono hg ?_
    rintro e w' ⟨rfl, rfl⟩
    refine ⟨_, rfl, ⟨⟨by simp, .inr ⟨w.heap.size, _, _, rfl, hB, heap_alloc_new w.drew _, ?_, ?_, ?_, ?_⟩⟩, h.fit⟩, ?_, ?_⟩
    · exact Nat.le_trans (Nat.le_add_right _ _) (grownCap_ge w _ _ _)
    · exact grownCap_le_maxLen w _ _ _ (by unfold maxLen; omega)
    · have := grownCap_ge w (xs.length + n) c (Try.growL_ren.t 25)
      simp only [Array.size_append, List.size_toArray, size_zeroCells, h3, show (Value.int IntKind.u64 0).cells.size = 1 from rfl, Nat.mul_one]
      omega
    · rw [Array.toList_append, Array.toList_append, List.append_assoc, Nat.mul_one]
      rw [List.take_append_of_le_length (by simp; omega)]
      simpa using h6
    · exact ⟨rfl, rfl, rfl, by simp, fun k hk _ => heap_alloc_old w.drew _ hk⟩
    · intro k hk
      simp [Value.ownBlock] at hk
      exact Or.inr (by omega)
  rcases h.own.2 with ⟨hv, hn0⟩ | ⟨g, cap, cur, hv, hb, hg, hnc, hcm, hcs, htake⟩
  · by_cases h0 : n = 0
    · subst h0
      refine Calls.mono (Any8.slices_Grow_room Try.growL none 0 0 0 w (Nat.le_refl _) (by omega) (by omega) (by omega) : Calls Try.prog 71 #[.slice none 0 0, .int .i64 (0 : Nat)] w _) ?_ |> (by rw [hv]; exact ·)
      rintro e w' ⟨rfl, rfl⟩
      exact ⟨_, rfl, hv ▸ h, Wrote.refl _ _, New.refl _ _⟩
    · exact grow none 0 [] (by rw [hv, hn0]) (by omega) (by omega) rfl (fun _ => rfl) (fun a ha => by cases ha) (by simp [List.length_eq_zero_iff.1 hn0])
  · by_cases hroom : xs.length + n ≤ cap
    · refine Calls.mono (Any8.slices_Grow_room Try.growL (some ⟨g, 0, none⟩) xs.length cap n w hnc (by unfold maxLen at hcm; omega) (by omega) hroom : Calls Try.prog 71 #[.slice (some ⟨g, 0, none⟩) xs.length cap, .int .i64 (n : Nat)] w _) ?_ |> (by rw [hv]; exact ·)
      rintro e w' ⟨rfl, rfl⟩
      exact ⟨_, rfl, hv ▸ h, Wrote.refl _ _, New.refl _ _⟩
    · refine grow (some ⟨g, 0, none⟩) cap cur.toList hv hnc (by omega) (by simpa using hcs) (fun e => by cases e) ?_ (by simpa using htake)
      intro a ha j u hj
      cases ha
      rw [Addr.add_lit, cell_of_row w g _ cur _ (0, 0) hg]
      simpa using hj

set_option maxHeartbeats 400000 in
theorem long_same (B : Nat) (v : Value) (xs : List Nat) (n : Nat) (w : World) (h : OwnW w B v xs) (hs : n ≤ xs.length) :
    Calls Try.prog 56 #[v, .int .i64 n] w fun e w' => e = .returned v ∧ w' = w := by
  obtain ⟨p, g, c, rfl, hc1, hc2, _, _⟩ := h.shape
  clear h
  generalize xs.length = l at *
  go_enter Try.func56, Try.ntmps56
  go_wp2
  go_ret
  exact ⟨rfl, rfl⟩

set_option maxHeartbeats 800000 in
theorem long_any (B : Nat) (v : Value) (xs : List Nat) (n : Nat) (w : World) (h : OwnW w B v xs) (hl : xs.length ≤ 100000) (hn : n ≤ 100000) (hB : B ≤ w.heap.size) :
    Calls Try.prog 56 #[v, .int .i64 n] w fun e w' => ∃ v', e = .returned v' ∧ OwnW w' B v' (longW xs n) ∧ Wrote w w' (At v) ∧ New w v v' := by
  obtain ⟨p, g, c, hv, hc1, hc2, _, _⟩ := h.shape
  have HE := hideS (ends_any B v xs w h (by omega))
  have hef : endW xs < 18446744073709551616 := h.fit _
  have HO := hideS h
  by_cases hs : n ≤ xs.length
  · rw [longW_none hs]
    rw [hv] at HE HO ⊢
    clear h hv
    generalize xs.length = l at *
    go_enter Try.func56, Try.ntmps56
    go_wp2
    go_ret
    exact ⟨_, rfl, HO.out, Wrote.refl _ _, New.refl _ _⟩
  · have HG : Hid (Calls Try.prog 71 #[v, .int .i64 ((n : Int) - (xs.length : Int) + 1)] w fun e w' => ∃ v', e = .returned v' ∧ OwnW w' B v' xs ∧ Wrote w w' (At v) ∧ New w v v') := by
      have := grow_any B v xs (n - xs.length + 1) w h (by omega) hB
      rw [show ((n - xs.length + 1 : Nat) : Int) = (n : Int) - (xs.length : Int) + 1 by omega] at this
      exact this
    have HX := hideS (fun k (hk : xs.length ≤ k) => longW_next (xs := xs) hk)
    have HL := hideS (fun k => longW_len xs k)
    have H0 := hideS (longW_none (Nat.le_refl xs.length))
    rw [hv] at HE HO HG ⊢
    clear h hv
    have hl0 : Hid (xs.length = xs.length) := rfl
    generalize hLL : xs.length = l at *
    replace hl0 : Hid (xs.length = l) := hLL
    clear hLL
    generalize endW xs = en at *
    go_enter Try.func56, Try.ntmps56
    go_wp2_with (first | (go_at_call 63; refine HE.out.mono ?_; rintro e w' ⟨rfl, rfl⟩) | (go_at_call 71; refine HG.out.mono ?_; rintro e w1 ⟨v1, rfl, o1, r1, n1⟩))
    have R1 := hideS (And.intro o1 (And.intro r1 n1))
    clear o1 r1 n1 HG HE HO
    go_loopg [0] (n - l) (fun m v wr => ∃ (k : Nat) (p' : Option Addr) (c' : Nat), l ≤ k ∧ k ≤ n ∧ m = n - k ∧ v = .slice p' k c' ∧ Hid (OwnW wr B (.slice p' k c') (longW xs k) ∧ Wrote w' wr (At (.slice p l c)) ∧ New w' (.slice p l c) (.slice p' k c')))
    case atStart =>
      obtain ⟨p1, g1, c1, hv1, _⟩ := R1.out.1.shape
      rw [hl0.out] at hv1
      refine ⟨l, p1, c1, Nat.le_refl _, by omega, rfl, hv1, ?_⟩
      rw [← hv1, H0.out]; exact R1.out
    case round =>
      obtain ⟨k, p', c', hk0, hk, rfl, rfl, HR⟩ := hrel
      by_cases hlt : k < n
      · have hbs : B ≤ wr.heap.size := Nat.le_trans hB HR.out.2.1.size
        go_wp2_with (at_builtin; refine wpList_append_word _ rfl _ _ 54 rfl Try.underlying54 B (.slice p' k c') (longW xs k) rfl (HR.out.1.alloc _) ⟨_, 0, none⟩ 1 en rfl hef ?c1 (by rw [HL.out]; omega) ?c2 ?_)
        case c1 => simp [Addr.add]
        case c2 => simp; omega
        intro v' w2 ho hg hN
        obtain ⟨p2, g2, c2, hv2, _⟩ := ho.shape
        rw [← HX.out k hk0, HL.out, show max l (k + 1) = k + 1 by omega] at hv2
        rw [← HX.out k hk0, hv2] at ho
        rw [hv2] at hN
        have R2 := hideS (And.intro ho (And.intro (HR.out.2.1.trans (wrote_app _ hg) ?t1) (HR.out.2.2.trans (new_app _ hN) HR.out.2.1.size)))
        case t1 =>
          intro j hj hj2
          rcases HR.out.2.2 j hj2 with h5 | h5
          · exact h5
          · omega
        subst hv2
        clear ho hg hN HR
        go_wp2
        go_roundg (n - (k + 1))
        case measure => omega
        case rel => exact ⟨k + 1, p2, c2, by omega, by omega, rfl, rfl, R2⟩
      · obtain rfl : k = n := by omega
        go_wp2
        go_ret
        exact ⟨_, rfl, HR.out⟩
end Go.Proofs.Ytejpplcccbiplaa
