/- What the laws of open days lean on: no word of the program. -/
import Derived.Test.YtelghkhcplmnmaaHay
namespace Go.Proofs.Ytelghkhcplmnmaa
open Go.RowKit

theorem srch_full {op : Int → Bool} {n s x : Int} (hs : s = 1 ∨ s = -1) (hn : isDayP n) (h : srch op n s = some x) : ∃ k : Nat, x = n + s * k ∧ isDayP x ∧ op x = true ∧ ∀ j < k, isDayP (n + s * (j : Nat)) ∧ op (n + s * (j : Nat)) = false := by
  have := srch_is op n s hs (by have := hn.1; omega) (by have := hn.2; omega)
  rw [h] at this
  generalize hx : some x = o at this
  cases this with
  | hit k a b c =>
    obtain rfl := Option.some.inj hx
    exact ⟨k, rfl, b, c, a⟩
  | none k a b => cases hx
/-- Where a search ends, seen from a closed day. -/
theorem srch_way {op : Int → Bool} {n s x : Int} (hs : s = 1 ∨ s = -1) (hn : isDayP n) (ho : op n = false) (h : srch op n s = some x) : isDayP x ∧ op x = true ∧ (s = 1 → n < x) ∧ (s = -1 → x < n) ∧ ∀ i, min n x < i → i < max n x → isDayP i ∧ op i = false := by
  obtain ⟨k, hx, hd, hx1, hj⟩ := srch_full hs hn h
  have hk : k ≠ 0 := fun e => by
    rw [e] at hx
    rw [show n + s * ((0 : Nat) : Int) = n by simp] at hx
    rw [hx, ho] at hx1
    exact Bool.noConfusion hx1
  refine ⟨hd, hx1, fun e => by rw [e] at hx; omega, fun e => by rw [e] at hx; omega, fun i h1 h2 => ?_⟩
  rcases hs with rfl | rfl
  · have := hj (i - n).toNat (by omega)
    rw [show n + 1 * (((i - n).toNat : Nat) : Int) = i by omega] at this
    exact this
  · have := hj (n - i).toNat (by omega)
    rw [show n + -1 * (((n - i).toNat : Nat) : Int) = i by omega] at this
    exact this
theorem adj_open {op : Int → Bool} {n way : Int} (hw : 0 ≤ way ∧ way ≤ 4) (hn : isDayP n) (ho : op n = true) : adjO op n way = some n := by
  rcases (show way = 0 ∨ way = 1 ∨ way = 2 ∨ way = 3 ∨ way = 4 by omega) with rfl | rfl | rfl | rfl | rfl
  · exact adjO_0 _ _
  · rw [adjO_1, srch_hit hn ho]
  · rw [adjO_2, srch_hit hn ho]
  · rw [adjO_3]; unfold nomO; rw [if_neg (fun a => a n (srch_hit hn ho) rfl), srch_hit hn ho]
  · rw [adjO_4]; unfold nomO; rw [if_neg (fun a => a n (srch_hit hn ho) rfl), srch_hit hn ho]
/-- What Adjust tells of a closed day. -/
theorem adj_shut {op : Int → Bool} {n way x : Int} (hw : 1 ≤ way ∧ way ≤ 4) (hn : isDayP n) (ho : op n = false) (h : adjO op n way = some x) :
    isDayP x ∧ op x = true ∧ (way = 1 → n < x) ∧ (way = 2 → x < n) ∧ ∀ i, min n x < i → i < max n x → isDayP i ∧ op i = false := by
  have key : ∀ s, (s = 1 ∨ s = -1) → nomO op n s = some x → isDayP x ∧ op x = true ∧ ∀ i, min n x < i → i < max n x → isDayP i ∧ op i = false := fun s hs hx => by
    unfold nomO at hx
    split at hx
    · obtain ⟨a, b, _, _, c⟩ := srch_way (s := -s) (by omega) hn ho hx; exact ⟨a, b, c⟩
    · obtain ⟨a, b, _, _, c⟩ := srch_way hs hn ho hx; exact ⟨a, b, c⟩
  rcases (show way = 1 ∨ way = 2 ∨ way = 3 ∨ way = 4 by omega) with rfl | rfl | rfl | rfl
  · rw [adjO_1] at h
    obtain ⟨a, b, c, _, d⟩ := srch_way (Or.inl rfl) hn ho h
    exact ⟨a, b, fun _ => c rfl, fun e => by omega, d⟩
  · rw [adjO_2] at h
    obtain ⟨a, b, _, c, d⟩ := srch_way (Or.inr rfl) hn ho h
    exact ⟨a, b, fun e => by omega, fun _ => c rfl, d⟩
  · rw [adjO_3] at h
    obtain ⟨a, b, d⟩ := key 1 (Or.inl rfl) h
    exact ⟨a, b, fun e => by omega, fun e => by omega, d⟩
  · rw [adjO_4] at h
    obtain ⟨a, b, d⟩ := key (-1) (Or.inr rfl) h
    exact ⟨a, b, fun e => by omega, fun e => by omega, d⟩

theorem cnt_split (op : Int → Bool) (a : Int) (k m : Nat) : cntN op a (k + m) = cntN op a k + cntN op (a + k) m := by
  induction m with
  | zero => rfl
  | succ m ih =>
    show cntN op a (k + m) + (if op (a + ((k + m : Nat) : Int)) then 1 else 0) = cntN op a k + (cntN op (a + k) m + (if op (a + k + (m : Nat)) then 1 else 0))
    rw [ih, show a + ((k + m : Nat) : Int) = a + k + (m : Nat) by omega]; omega
theorem cnt_closed {op : Int → Bool} {a : Int} {k : Nat} (h : ∀ j < k, op (a + (j : Nat)) = false) : cntN op a k = 0 := by
  induction k with
  | zero => rfl
  | succ k ih =>
    show cntN op a k + (if op (a + (k : Nat)) then 1 else 0) = 0
    rw [ih (fun j hj => h j (by omega)), h k (by omega)]; rfl
theorem cnt_one (op : Int → Bool) (a : Int) : cntN op a 1 = if op a then 1 else 0 := by
  show 0 + (if op (a + ((0 : Nat) : Int)) then 1 else 0) = _
  rw [show a + ((0 : Nat) : Int) = a by omega]; omega
theorem addO_add (op : Int → Bool) (s : Int) (j k : Nat) (n : Int) : addO op s (j + k) n = (addO op s j n).bind (addO op s k) := by
  induction j generalizing n with
  | zero => rw [Nat.zero_add]; rfl
  | succ j ih =>
    rw [show j + 1 + k = (j + k) + 1 by omega]
    cases h : srch op (n + s) s with
    | none => rw [addO_none h, addO_none h]; rfl
    | some x => rw [addO_some h, addO_some h]; exact ih x
/-- The open days behind n, up to the K-th: K. -/
theorem add_cnt {op : Int → Bool} (K : Nat) : ∀ (n x : Int), isDayP n → addO op 1 K n = some x → isDayP x ∧ n ≤ x ∧ (0 < K → op x = true ∧ n < x) ∧ cntN op (n + 1) (x - n).toNat = K := by
  induction K with
  | zero =>
    intro n x hn h
    obtain rfl : n = x := Option.some.inj h
    exact ⟨hn, Int.le_refl _, fun h => absurd h (Nat.lt_irrefl _), by rw [show (n - n).toNat = 0 by omega]; rfl⟩
  | succ K ih =>
    intro n x hn h
    cases hy : srch op (n + 1) 1 with
    | none => rw [addO_none hy] at h; cases h
    | some y =>
      rw [addO_some hy] at h
      have hd : isDayP (n + 1) := by
        by_cases hd : isDayP (n + 1)
        · exact hd
        · rw [srch_out hd] at hy; cases hy
      obtain ⟨k, hk, hyd, hyo, hj⟩ := srch_full (Or.inl rfl) hd hy
      have hyk : y = n + 1 + k := by omega
      obtain ⟨hx, hyx, hop, hc⟩ := ih y x hyd h
      refine ⟨hx, by omega, fun _ => ⟨?_, by omega⟩, ?_⟩
      · by_cases hK : 0 < K
        · exact (hop hK).1
        · obtain rfl : K = 0 := by omega
          obtain rfl : y = x := Option.some.inj h
          exact hyo
      · have c1 : cntN op (n + 1) k = 0 := cnt_closed fun j hj' => by
          have := (hj j hj').2
          rw [show n + 1 + 1 * ((j : Nat) : Int) = n + 1 + (j : Nat) by omega] at this; exact this
        have c2 : cntN op (n + 1) (k + 1) = 1 := by
          rw [cnt_split, c1, cnt_one, show n + 1 + ((k : Nat) : Int) = y by omega, hyo]; rfl
        rw [show (x - n).toNat = (k + 1) + (x - y).toNat by omega, cnt_split, c2, show n + 1 + ((k + 1 : Nat) : Int) = y + 1 by omega, hc]; omega
/-- From an open day on, ahead of the K-th open day behind it: K. -/
theorem add_cnt_open {op : Int → Bool} {K : Nat} {n x : Int} (hn : isDayP n) (hK : 0 < K) (ho : op n = true) (h : addO op 1 K n = some x) : cntN op n (x - n).toNat = K := by
  obtain ⟨_, _, hop, hc⟩ := add_cnt K n x hn h
  obtain ⟨hx, hlt⟩ := hop hK
  have e1 : cntN op n ((x - n).toNat + 1) = cntN op n (x - n).toNat + 1 := by
    rw [cnt_split, cnt_one, show n + (((x - n).toNat : Nat) : Int) = x by omega, hx]; rfl
  have e2 : cntN op n (1 + (x - n).toNat) = 1 + cntN op (n + 1) (x - n).toNat := by
    rw [cnt_split, cnt_one, ho]; rfl
  rw [Nat.add_comm] at e2
  omega
end Go.Proofs.Ytelghkhcplmnmaa
