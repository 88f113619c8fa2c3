/- Contracts of package acc's words: ends, word, anyBit, sign, step. -/
import Derived.Test.YtejpplcccbiplaaRow
namespace Go.Proofs.Ytejpplcccbiplaa
open Go.RowKit

set_option maxHeartbeats 400000 in
theorem ends_any (B : Nat) (v : Value) (xs : List Nat) (w : World) (h : OwnW w B v xs) (hn : xs.length ≤ 100000000) :
    Calls Try.prog 63 #[v] w fun e w' => e = .returned (.int .u64 (endW xs : Nat)) ∧ w' = w := by
  obtain ⟨p, g, c, rfl, hc1, hc2, hp, hc⟩ := h.shape
  have HE := hideS (show endW xs = xs.getD (xs.length - 1) 0 from rfl)
  rw [HE.out]
  clear h HE
  generalize hN : xs.length = n at *
  cases n with
  | zero =>
    have : xs = [] := List.length_eq_zero_iff.1 hN
    subst this
    clear hp hc hN hc1 hc2
    go_enter Try.func63, Try.ntmps63
    go_wp2
    go_ret
    exact ⟨rfl, rfl⟩
  | succ m =>
    obtain ⟨rfl, _⟩ := hp (by omega)
    have hcl := hc m (by omega)
    clear hc hp hN hc1 hc2
    rw [Nat.add_sub_cancel]
    generalize xs.getD m 0 = x at hcl
    go_enter Try.func63, Try.ntmps63
    go_wp2
    go_ret
    exact ⟨rfl, rfl⟩

set_option maxHeartbeats 400000 in
theorem word_any (B : Nat) (v : Value) (xs : List Nat) (i : Nat) (w : World) (h : OwnW w B v xs) (hn : xs.length ≤ 100000000) (hi : i ≤ 100000000) :
    Calls Try.prog 58 #[v, .int .i64 i] w fun e w' => e = .returned (.int .u64 (wd xs i : Nat)) ∧ w' = w := by
  have HE := hideS (ends_any B v xs w h hn)
  obtain ⟨p, g, c, rfl, hc1, hc2, hp, hc⟩ := h.shape
  clear h
  have HW := hideS (show wd xs i = if i < xs.length then xs.getD i 0 else endW xs from rfl)
  rw [HW.out]
  clear HW
  generalize xs.length = n at *
  by_cases hlt : i < n
  · rw [if_pos hlt]
    obtain ⟨rfl, _⟩ := hp (by omega)
    have hcl := hc i (by omega)
    clear hc hp hc1 hc2
    generalize xs.getD i 0 = x at hcl
    go_enter Try.func58, Try.ntmps58
    go_wp2
    go_ret
    exact ⟨rfl, rfl⟩
  · rw [if_neg hlt]
    clear hc hp
    generalize endW xs = x at HE
    go_enter Try.func58, Try.ntmps58
    go_wp2_with (go_at_call 63; refine HE.out.mono ?_; rintro e w' ⟨rfl, rfl⟩)
    go_ret
    exact ⟨rfl, rfl⟩

/-- Whether a word is not 0. -/
def anyB (xs : List Nat) : Bool := decide (ps (fun i => xs.getD i 0) xs.length ≠ 0)
set_option maxHeartbeats 400000 in
theorem anyBit_any (p : Option Addr) (g c n : Nat) (xs : List Nat) (w : World) (hp : 0 < n → p = some ⟨g, 0, none⟩) (hc : Hid (∀ j, j < n → w.cell? ⟨g, j, none⟩ = some (.int .u64 (xs.getD j 0 : Nat)))) (hn : n ≤ 100000000) :
    Calls Try.prog 65 #[.slice p n c] w fun e w' => e = .returned (.bool (decide (ps (fun i => xs.getD i 0) n ≠ 0))) ∧ w' = w := by
  obtain ⟨F, hF⟩ : ∃ F : Nat → Nat, F = fun i => xs.getD i 0 := ⟨_, rfl⟩
  have hc2 : Hid (∀ j, j < n → w.cell? ⟨g, j, none⟩ = some (.int .u64 (F j : Nat))) := by rw [hF]; exact hc
  rw [← hF]
  clear hc hF
  obtain ⟨r, hr⟩ : ∃ r, decide (ps F n ≠ 0) = r := ⟨_, rfl⟩
  rw [hr]
  have HR := hideS hr
  clear hr
  go_enter Try.func65, Try.ntmps65
  go_wp2
  go_loop [4, 7] (fun _ i => ∃ k : Nat, k ≤ n ∧ i = .int .i64 k ∧ Hid (ps F k = 0)) (fun _ i => n - (intOf i).toNat)
  case atStart => exact ⟨0, Nat.zero_le _, rfl, rfl⟩
  case round =>
    obtain ⟨k, hk, rfl, HP⟩ := hrel
    by_cases hlt : k < n
    · obtain rfl := hp (by omega)
      have hcl := hc2.out k hlt
      by_cases h0 : F k = 0
      · have HN : Hid (ps F (k + 1) = 0) := by show _ = _; rw [ps, HP.out, h0]; simp
        rw [h0] at hcl
        clear h0
        go_wp2
        go_round
        case rel => exact ⟨k + 1, by omega, by simp, HN⟩
        case measure => simp [intOf]; omega
      · have HN : Hid (decide (ps F n ≠ 0) = true) := by
          show _ = _
          rw [decide_eq_true_eq]
          intro e
          exact h0 (ps_eq_zero e k hlt)
        have h1 : ((F k : Int) == 0) = false := by simpa using h0
        clear h0
        generalize (F k : Int) = q at h1 hcl
        go_wp2
        go_ret
        exact ⟨ret_bool (HN.out.symm.trans HR.out), rfl⟩
    · obtain rfl : k = n := by omega
      have HN : Hid (decide (ps F k ≠ 0) = false) := by show _ = _; simp [HP.out]
      go_wp2
      go_ret
      exact ⟨ret_bool (HN.out.symm.trans HR.out), rfl⟩

def sgnI (N : Int) : Int := if N < 0 then -1 else if N = 0 then 0 else 1
set_option maxHeartbeats 400000 in
theorem sign_any (B : Nat) (v : Value) (xs : List Nat) (N : Int) (w : World) (h : OwnW w B v xs) (hs : Sg xs N) (hn : xs.length ≤ 100000000) :
    Calls Try.prog 44 #[v] w fun e w' => e = .returned (.int .i64 (sgnI N)) ∧ w' = w := by
  have HE := hideS (ends_any B v xs w h hn)
  have hr := hs.range (n := xs.length) (by omega)
  have he := hs.eq
  obtain ⟨p, g, c, rfl, hc1, hc2, hp, hc⟩ := h.shape
  have HA := hideS (anyBit_any p g c xs.length xs w (fun h0 => (hp h0).1) hc hn)
  rw [wd_in (Nat.le_refl _)] at he
  clear hc hp hs h
  generalize xs.length = n at *
  by_cases h0 : endW xs = 0
  · have HZ : Hid (sgnI N = if decide (ps (fun i => xs.getD i 0) n ≠ 0) = true then 1 else 0) := by
      show _ = _
      have := hr.1 h0
      rw [if_pos h0] at he
      unfold sgnI
      simp only [decide_eq_true_eq]
      by_cases hz : ps (fun i => xs.getD i 0) n = 0
      · rw [if_neg (by omega), if_pos (by omega), if_neg (by simpa using hz)]
      · rw [if_neg (by omega), if_neg (by omega), if_pos hz]
    rw [HZ.out]
    clear HZ he hr
    rw [h0] at HE
    clear h0
    generalize decide (ps (fun i => xs.getD i 0) n ≠ 0) = b at *
    cases b
    · go_enter Try.func44, Try.ntmps44
      go_wp2_with (first | (go_at_call 63; refine HE.out.mono ?_; rintro e w' ⟨rfl, rfl⟩) | (go_at_call 65; refine HA.out.mono ?_; rintro e w' ⟨rfl, rfl⟩))
      go_ret
      exact ⟨rfl, rfl⟩
    · go_enter Try.func44, Try.ntmps44
      go_wp2_with (first | (go_at_call 63; refine HE.out.mono ?_; rintro e w' ⟨rfl, rfl⟩) | (go_at_call 65; refine HA.out.mono ?_; rintro e w' ⟨rfl, rfl⟩))
      go_ret
      exact ⟨rfl, rfl⟩
  · have HZ : Hid (sgnI N = -1) := by
      show _ = _
      have := hr.2 h0
      unfold sgnI
      rw [if_pos (by omega)]
    have h1 : ((endW xs : Int) == 0) = false := by simpa using h0
    rw [HZ.out]
    clear HZ he hr HA h0
    generalize (endW xs : Int) = q at *
    go_enter Try.func44, Try.ntmps44
    go_wp2_with (go_at_call 63; refine HE.out.mono ?_; rintro e w' ⟨rfl, rfl⟩)
    go_ret
    exact ⟨rfl, rfl⟩

/-- 1, or -1 where something is taken away. -/
def sI (less : Bool) : Int := if less then -1 else 1
theorem call_add64 (x y c : Nat) (hc : c ≤ 1) (w : World) : (callFunc 57 #[.int .u64 x, .int .u64 y, .int .u64 c]).run Try.prog w = .ok (.value (.tuple #[.int .u64 (((x + y + c) % 18446744073709551616 : Nat) : Int), .int .u64 (((x + y + c) / 18446744073709551616 : Nat) : Int)])) w :=
  Any7.bits_Add64 Try.addL x y c hc w
theorem call_sub64 (x y c : Nat) (hc : c ≤ 1) (w : World) : (callFunc 72 #[.int .u64 x, .int .u64 y, .int .u64 c]).run Try.prog w = .ok (.value (.tuple #[.int .u64 (((x + 18446744073709551616 - y - c) % 18446744073709551616 : Nat) : Int), .int .u64 ((if x < y + c then 1 else 0 : Nat) : Int)])) w :=
  Any7.bits_Sub64 Try.subL x y c hc w
theorem sub64_parts (x y c : Nat) (hc : c ≤ 1) (hx : x < 18446744073709551616) (hy : y < 18446744073709551616) : ∃ z c' : Nat, (x + 18446744073709551616 - y - c) % 18446744073709551616 = z ∧ (if x < y + c then 1 else 0) = c' ∧ z < 18446744073709551616 ∧ c' ≤ 1 ∧ (z : Int) + (-1) * ((c' : Int) * 18446744073709551616) = (x : Int) + (-1) * ((y : Int) + c) := by
  refine ⟨_, _, rfl, rfl, Nat.mod_lt _ (by decide), by split <;> omega, ?_⟩
  split <;> omega
theorem add64_parts (x y c : Nat) (hc : c ≤ 1) (hx : x < 18446744073709551616) (hy : y < 18446744073709551616) : ∃ z c' : Nat, (x + y + c) % 18446744073709551616 = z ∧ (x + y + c) / 18446744073709551616 = c' ∧ z < 18446744073709551616 ∧ c' ≤ 1 ∧ (z : Int) + 1 * ((c' : Int) * 18446744073709551616) = (x : Int) + 1 * ((y : Int) + c) := by
  refine ⟨_, _, rfl, rfl, Nat.mod_lt _ (by decide), by omega, ?_⟩
  omega

set_option maxHeartbeats 400000 in
theorem step_any (x y c : Nat) (less : Bool) (w : World) (hc : c ≤ 1) (hx : x < 18446744073709551616) (hy : y < 18446744073709551616) :
    Calls Try.prog 70 #[.int .u64 x, .int .u64 y, .int .u64 c, .bool less] w fun e w' => (∃ z c' : Nat, e = .returned (.tuple #[.int .u64 z, .int .u64 c']) ∧ z < 18446744073709551616 ∧ c' ≤ 1 ∧ (z : Int) + sI less * ((c' : Int) * 18446744073709551616) = (x : Int) + sI less * ((y : Int) + c)) ∧ w' = w := by
  cases less
  · obtain ⟨z, c', e1, e2, h1, h2, h3⟩ := add64_parts x y c hc hx hy
    have ha := call_add64 x y c hc
    rw [e1, e2] at ha
    have H3 := hideS h3
    clear e1 e2 h3 hx hy
    go_enter Try.func70, Try.ntmps70
    go_wp2
    go_ret2
    exact ⟨⟨z, c', rfl, h1, h2, H3.out⟩, rfl⟩
  · obtain ⟨z, c', e1, e2, h1, h2, h3⟩ := sub64_parts x y c hc hx hy
    have ha := call_sub64 x y c hc
    rw [e1, e2] at ha
    have H3 := hideS h3
    clear e1 e2 h3 hx hy
    go_enter Try.func70, Try.ntmps70
    go_wp2
    go_ret2
    exact ⟨⟨z, c', rfl, h1, h2, H3.out⟩, rfl⟩
end Go.Proofs.Ytejpplcccbiplaa
